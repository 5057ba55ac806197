/- General laws of walks. -/
import Derived.Test.YteglmahnkfgelaaGreatG14
import Derived.Test.YteglmahnkfgelaaGreatG1
namespace Go.Proofs.YteglmahnkfgelaaGreat.K
open Go.ChangeShapes Go.WideShapes Go.ChangeAt Go.RowKit
set_option linter.unusedVariables false
set_option linter.unusedSimpArgs false
set_option maxRecDepth 100000
set_option maxHeartbeats 4000000
set_option autoImplicit true
set_option relaxedAutoImplicit true
section
theorem vi:lR Tryz.prog 25 [.int .i64 0,.int .i64 0,.int .i64 0,.int .i64 0,.int .i64 0,.int .i64 0,.int .i64 0,.slice none 0 0]=true:=by kernel_rfl
theorem vj:lR Tryz.prog 30 [.int .i64 0,.slice none 0 0]=true:=by kernel_rfl
theorem vk:lR Tryz.prog 78 [.int .i64 0,.slice none 0 0]=true:=by kernel_rfl
theorem vl(vo bl sz pe to ne fl:Int)(hi:Bool)(pp pn pw:Option Addr)(np cp nn9 cn9:Nat)(ws:List PWr)(cw:Nat)(w0:World) :
   Calls Tryz.prog 37 #[.agg #[.int .i64 vo,.int .i64 bl,.int .i64 sz,.int .i64 pe,.slice pp np cp,.int .i64 to,.int .i64 ne,.bool hi,.int .i64 fl,.slice pn nn9 cn9,.slice pw (ws.map wrD).length cw]] w0 fun e w'=>e=.returned (.int .i64 (ws.length:Int))∧Below w0.heap.size w0 w':=by
 have h:=me vo bl sz pe to ne fl hi pp pn pw np cp nn9 cn9 (ws.map wrD).length cw w0
 rw[List.length_map] at h
 rw[List.length_map]
 exact h
theorem tY(vo bl sz pe to ne fl:Int)(hi:Bool)(pp pn pw:Option Addr)(cp:Nat)(place:List Int)(nn9 cn9 nw cw:Nat)(ch fi cnt:Int)(w0:World)(hch:0≤ch∧ch<place.length)(hpe:1≤pe)(hfi:ch*pe=fi)(hfb:0≤fi∧fi≤1000000)(hblb:0≤bl∧bl≤1000000)(hcnt:min pe (bl - fi)=cnt) :
   Calls Tryz.prog 85 #[.agg #[.int .i64 vo,.int .i64 bl,.int .i64 sz,.int .i64 pe,.slice pp place.length cp,.int .i64 to,.int .i64 ne,.bool hi,.int .i64 fl,.slice pn nn9 cn9,.slice pw nw cw],.int .i64 ch] w0 fun e w'=>e=.returned (.int .i64 cnt)∧Below w0.heap.size w0 w':=by
 refine mR Tryz.func85 rfl Tryz.ntmps85 fun Y U =>?_
 have m0:=MemOk.start (fun _=>False) w0
 refine zsr fun K0 hK0 =>?_
 refine plz (ly U m0 20 (cs:=[_,_,_,_,_,_,_,_,_,_,_]) rfl rfl rfl fun g1 Y w2 U m2 _ _ =>?_)
 refine gz hK0 U (.assign rfl .nil) fun Y U =>?_
 refine wsk fun K1 hK1 =>?_
 refine zsr fun K2 hK2 =>?_
 refine k9 U (.move rfl<|.lss rfl rfl<|.move rfl .nil) fun Y U =>?_
 refine bcO U 7 fun U =>?_
 refine k9 U (.moveZ rfl<|.faZ 4 rfl U34<|.loadB1Z m2 (i:=20) rfl rfl rfl U31 rfl<|.lenZ rfl U31<|.geqZ rfl rfl<|.pickF rfl rfl<|.move rfl .nil) fun Y U =>?_
 refine bcO U 14 fun U =>?_
 refine gz hK2 U (.faZ 3 rfl U34<|.loadB1Z m2 (i:=20) rfl rfl rfl U3 rfl<|.lssZ rfl rfl<|.pickF rfl rfl<|.nil) fun Y U =>?_
 refine bcO U 18 fun U =>?_
 refine wcf U ?_
 refine zss (hK1 _ _ ?_)
 replace U:=U.oz [1,2,4]
 refine la U (.fa 3 rfl U34<|.lb m2 20 U3 rfl rfl rfl<|.fa 1 rfl U34<|.lb m2 20 U3 rfl rfl rfl<|.move rfl<|.fa 3 rfl U34<|.lb m2 20 U3 rfl rfl rfl<|.mul rfl rfl (r:=fi) (by rw[hfi];exact IntWalk.i64_in _ (by omega))<|.sub rfl rfl (r:=bl - fi) (IntWalk.i64_in _ (by omega))<|.c rfl (fun _ h_=>qN h_ rfl rfl (r:=cnt) hcnt)<|.assign rfl .nil) fun Y U =>?_
 refine rt1 U ?_
 exact⟨rfl,m2.below⟩
theorem ux(X:Cx)(vo bl sz pe to ne fl:Int)(hi:Bool)(pp pn pw:Option Addr)(cp nn9 cn9 cw:Nat)(place:List Int)(ws:List PWr)(ch fi cnt:Int)(mk tq:Nat)(w0:World)(hch:0≤ch∧ch<place.length)(hpe:1≤pe)(hfi:ch*pe=fi)(hfb:0≤fi∧fi≤1000000)(hblb:0≤bl∧bl≤1000000)(hcnt:min pe (bl - fi)=cnt)(hc1:1≤cnt)(hl:ws.length≤1000000)(hok:rT ws)(hib:∀ e∈ws,∀ x∈e.2,0≤x.1∧x.1<bl)(hmk:mk≤ws.length)(htq:min ((mk:Int)+4) ws.length=tq)(m0:MemOk X w0 [(3,.dat (.slice pw (ws.map wrD).length cw) (.l 2 (ws.map wrD)))] w0) :
   Calls Tryz.prog 36 #[.agg #[.int .i64 vo,.int .i64 bl,.int .i64 sz,.int .i64 pe,.slice pp place.length cp,.int .i64 to,.int .i64 ne,.bool hi,.int .i64 fl,.slice pn nn9 cn9,.slice pw (ws.map wrD).length cw],.int .i64 ch,.int .i64 (mk:Int)] w0 fun e w' => ∃ p c,e=.returned (.tuple #[.agg #[.int .i64 vo,.int .i64 ch,.int .i64 cnt,.int .i64 sz,.int .i64 (mk:Int),.int .i64 (tq:Int),.int .i64 (min fl tq),.slice p ((lI fi cnt ((ws.take tq).drop mk)).map wrD).length c],.bool true])∧MemOk X w0 [(3,.dat (.slice pw (ws.map wrD).length cw) (.l 2 (ws.map wrD))),(9,.dat (.slice p ((lI fi cnt ((ws.take tq).drop mk)).map wrD).length c) (.l 2 ((lI fi cnt ((ws.take tq).drop mk)).map wrD)))] w':=by
 refine qr Tryz.func36 rfl Tryz.ntmps36 fun Y U =>?_
 obtain⟨W2,hW2⟩:∃ x,(ws.take tq).drop mk=x:=⟨_,rfl⟩
 have hW2l:W2.length=tq - mk:=by rw[← hW2,List.length_drop,List.length_take];omega
 refine zsr fun K0 hK0 =>?_
 refine plz (ly U m0 70 (cs:=[_,_,_,_,_,_,_,_,_,_,_]) rfl rfl rfl fun g1 Y w2 U m2 _ _ =>?_)
 refine plz (lc U m2 71 mL rfl fun g3 Y w4 U m4 _ _ =>?_)
 refine gz hK0 U (.assign rfl .nil) fun Y U =>?_
 refine zsr fun K1 hK1 =>?_
 refine k9 U (.loadBR m4 (i:=70) rfl rfl U34 rfl ld (by simp) (by dsimp only [List.drop,List.take] <;> rfl)<|.move rfl .nil) fun Y U =>?_
 refine plz (ecb U Tryz.func85 rfl m4 (tY _ _ _ _ _ _ _ _ _ _ _ _ place _ _ _ _ _ fi cnt _ hch hpe hfi hfb hblb hcnt) fun Y dB U cf =>?_)
 refine gz hK1 U (.assign rfl .nil) fun Y U =>?_
 refine wsk fun K2 hK2 =>?_
 refine zsr fun K3 hK3 =>?_
 refine k9 U (.move rfl<|.lss rfl rfl<|.move rfl .nil) fun Y U =>?_
 refine bc U 20 ?_ ?_
 · intro hb _;exact absurd hb (by first|(simp;done)|(simp;omega))
 clear U;intro _ U
 refine k9 U (.moveZ rfl<|.lssZ rfl rfl<|.pickF rfl rfl<|.move rfl .nil) fun Y U =>?_
 refine bc U 24 ?_ ?_
 · intro hb _;exact absurd hb (by first|(simp;done)|(simp;omega))
 clear U;intro _ U
 refine k9 U (.moveZ rfl<|.loadBRZ cf (i:=70) rfl rfl U34 rfl ld (by simp) (by dsimp only [List.drop,List.take] <;> rfl) .nil) fun Y U =>?_
 refine stz U (ecb U Tryz.func37 rfl cf (vl _ _ _ _ _ _ _ _ _ _ _ _ _ _ _ _ _ _) fun Y dC U cC =>?_)
 refine gz hK3 U (.gtrZ rfl rfl<|.pickF rfl rfl<|.nil) fun Y U =>?_
 refine bc U 29 ?_ ?_
 · intro hb _;exact absurd hb (by first|(simp;done)|(simp;omega))
 clear U;intro _ U
 refine wcf U ?_
 refine zss (hK2 _ _ ?_)
 refine wsk fun K4 hK4 =>?_
 replace U:=U.oz [1,2,3,6,7,8,25]
 have bI:=cC.oz [3,70,71]
 refine region_p 15 (B:=[(70,_)]) (bI.to i1l) bI (by kernel_rfl) (fun dD aG bJ =>?_);clear bI
 refine goR aG [0,1,2,3,4,5,6,7,8,9] [1,5,9] 10 0 1023 U (bJ.to i1l) (.fa 0 rfl U34<|.lb hh 70 U3 rfl rfl rfl<|.move rfl<|.move rfl<|.fa 2 rfl U34<|.lb hh 70 U3 rfl rfl rfl<|.move rfl<|.move rfl<|.add rfl rfl (r:=(mk:Int)+4) (IntWalk.i64_in _ (by omega))<|.loadBR hh (i:=70) rfl rfl U34 rfl ld (by simp) (by dsimp only [List.drop,List.take] <;> rfl) .nil) fun Y U =>?_
 refine dtw 10 13 ?_ ?_
 ·
  refine ecb U Tryz.func37 rfl bJ (vl _ _ _ _ _ _ _ _ _ _ _ _ _ _ _ _ _ _) fun Y dE U bK =>?_
  refine⟨fun _=>(bK.to i1l),?_⟩
  refine goA aG [11,12] 2 2047 8191 U (bK.to i1l) (.p (fun _ _ h_=>qN h_ rfl rfl (r:=(tq:Int)) htq)<|.build rfl mL vi rfl (by dsimp only [l9,List.set] <;> rfl) .nil) fun Y U =>?_
  refine so 13 ?_
  refine lc U bK 72 mL rfl fun dF Y dG U cg _ _ =>?_
  refine⟨cg.to i1l,?_⟩
  refine so 14 ?_
  refine stw U cg 72 lF fun dH bH _ =>?_
  refine⟨bH.to i1l,?_⟩
  refine wad ?_
  refine hK4 _ _ ?_
  replace U:=U.oz [1,3,6,7,8,25,9]
  refine zsr fun K5 hK5 =>?_
  refine k9 U (.fa 8 rfl U34<|.lb bH 70 U2 rfl rfl rfl<|.fa 5 rfl U25<|.lb bH 72 U2 rfl rfl rfl<|.c rfl (fun _ h_=>qN h_ rfl rfl rfl)<|.fa 6 rfl U25 .nil) fun Y U =>?_
  refine plz (st1 U bH 72 l3 fun dI bL _ =>?_)
  refine znl (hK5 _ _ ?_)
  refine wsk fun K6 hK6 =>?_
  replace U:=U.oz [1,3,6,7,8,25,9]
  refine la U (.fa 4 rfl U25<|.lb bL 72 U2 rfl rfl rfl<|.assign rfl .nil) fun Y U =>?_
  refine wp_block ?_
  refine wp_loop_ghost (fun g a w => ∃ (k B3 B6 B9:Nat) (p:Option Addr) (c:Nat),mk+k≤tq∧g=tq - mk - k∧Has 112 [(1,.int .i64 ch),(3,.pointer (some ⟨B3,0,none⟩)),(6,.pointer (some ⟨B6,0,none⟩)),(8,.int .i64 cnt),(9,.pointer (some ⟨B9,0,none⟩)),(10,.int .i64 ((mk+k:Nat):Int))] a∧MemOk X w0 [(1,.box B3 34 [.int .i64 vo,.int .i64 bl,.int .i64 sz,.int .i64 pe,.slice pp place.length cp,.int .i64 to,.int .i64 ne,.bool hi,.int .i64 fl,.slice pn nn9 cn9,.slice pw (ws.map wrD).length cw]),(6,.box B6 25 [.int .i64 0,.int .i64 0,.int .i64 0,.int .i64 0,.int .i64 0,.int .i64 0,.int .i64 0,.slice none 0 0]),(9,.box B9 25 [.int .i64 vo,.int .i64 ch,.int .i64 cnt,.int .i64 sz,.int .i64 mk,.int .i64 tq,.int .i64 (min fl tq),.slice p ((lI fi cnt (W2.take k)).map wrD).length c]),(10,.row (.slice p ((lI fi cnt (W2.take k)).map wrD).length c) 30 2 ((lI fi cnt (W2.take k)).map wrD)),(3,.dat (.slice pw (ws.map wrD).length cw) (.l 2 (ws.map wrD)))] w) (tq - mk) ?_ ?_
  · have mz:=bL.nilR 10 30 2
    exact⟨0,_,_,_,_,_,by omega,rfl,U.only [1,3,6,8,9,10],mz.ren [(1,70),(6,71),(9,72),(10,10),(3,3)] (by decide)⟩
  clear U bL
  rintro g Y dJ ⟨k,B3,B6,B9,p,c,hkl,hg,U,aR⟩
  refine wsk fun K7 hK7 =>?_
  refine la U (.move rfl<|.fa 5 rfl U25<|.lb aR 9 U2 rfl rfl rfl<|.lss rfl rfl .nil) fun Y U =>?_
  refine bc U 55 ?_ ?_
  ·
   intro aH U;try simp only [QQ,Qax] at aH
   have hk:k<W2.length:=by omega
   obtain⟨⟨xs,xl⟩,hes2⟩:∃ e,W2[k]? = some e:=⟨_,List.getElem?_eq_getElem hk⟩
   have hes:ws[mk+k]? = some (xs,xl):=by rw[← hW2,List.getElem?_drop,List.getElem?_take] at hes2;split at hes2;(exact hes2);(cases hes2)
   have hok2:=hok _ (List.mem_of_getElem? hes)
   dsimp only at hok2
   have hib2:=hib _ (List.mem_of_getElem? hes)
   dsimp only at hib2
   refine wct U ?_
   refine zss (hK7 _ _ ?_)
   refine wsk fun K8 hK8 =>?_
   refine wp_block ?_
   refine la U (.assign rfl .nil) fun Y U =>?_
   refine zsr fun K9 hK9 =>?_
   refine k9 U (.fa 10 rfl U34<|.lb aR 1 U23 rfl rfl rfl<|.move rfl .nil) fun Y U =>?_
   obtain⟨ci,cj,cD,bM,bN,bO,ck⟩:=aR.openR (i:=3) rfl ((mk+k)) (r:=[.v (.int .i64 xs),.l 2 (xl.map itD)]) (mj hes) 100 rfl
   revert U
   cases bM;clear aR bO
   rcases bN with _|⟨ay,_|⟨ap,_|_⟩⟩
   obtain rfl:=ay.v_out
   clear ay
   obtain⟨dK,dL,bP,cE⟩:=ap.l_shape;subst bP
   intro U
   have cl:=ck.dat 101 rfl (ap.cast (fun _ h=>(lf rfl h)));clear ck ap
   refine k9 U (.c rfl (fun _ h_=>li h_ rfl rfl U23 nV ((mk+k)) rfl (by rw[List.length_map];omega))<|.loadCR cl (i:=100) rfl rfl U30 rfl nV .nil) fun Y U =>?_
   refine plz (lc U cl 102 rJ rfl fun dM Y dN U cF _ _ =>?_)
   refine plz (stw U cF 102 nV fun dO cm _ =>?_)
   refine znl (hK9 _ _ ?_)
   refine wsk fun dP bQ =>?_
   replace U:=U.oz [1,3,6,8,9,10,11,12]
   refine la U (.assign rfl .nil) fun Y U =>?_
   refine wp_block ?_
   refine wp_loop_ghost (fun g a w => ∃ (j B3 B6 B9 aI:Nat) (p p2 px:Option Addr) (c c2 cx9:Nat),j≤xl.length∧g=xl.length - j∧Has 112 [(1,.int .i64 ch),(3,.pointer (some ⟨B3,0,none⟩)),(6,.pointer (some ⟨B6,0,none⟩)),(8,.int .i64 cnt),(9,.pointer (some ⟨B9,0,none⟩)),(10,.int .i64 ((mk+k:Nat):Int)),(11,.slice p2 ((lu fi cnt (xl.take j)).map itD).length c2),(12,.pointer (some ⟨aI,0,none⟩)),(13,.int .i64 j)] a∧MemOk X w0 [(1,.box B3 34 [.int .i64 vo,.int .i64 bl,.int .i64 sz,.int .i64 pe,.slice pp place.length cp,.int .i64 to,.int .i64 ne,.bool hi,.int .i64 fl,.slice pn nn9 cn9,.slice (some ⟨ci,cj,none⟩) (ws.map wrD).length cw]),(6,.box B6 25 [.int .i64 0,.int .i64 0,.int .i64 0,.int .i64 0,.int .i64 0,.int .i64 0,.int .i64 0,.slice none 0 0]),(9,.box B9 25 [.int .i64 vo,.int .i64 ch,.int .i64 cnt,.int .i64 sz,.int .i64 mk,.int .i64 tq,.int .i64 (min fl tq),.slice p ((lI fi cnt (W2.take k)).map wrD).length c]),(10,.row (.slice p ((lI fi cnt (W2.take k)).map wrD).length c) 30 2 ((lI fi cnt (W2.take k)).map wrD)),(3,.dat (.slice (some ⟨ci,cj,none⟩) (ws.map wrD).length cw) (.l 2 (ws.map wrD))),(12,.box aI 30 [.int .i64 xs,.slice px (xl.map itD).length cx9]),(13,.dat (.slice px (xl.map itD).length cx9) (.l 2 (xl.map itD))),(14,.row (.slice p2 ((lu fi cnt (xl.take j)).map itD).length c2) 78 2 ((lu fi cnt (xl.take j)).map itD))] w) (xl.length) ?_ ?_
   · have mz:=cm.nilR 14 78 2
     exact⟨0,_,_,_,_,_,_,_,_,_,_,Nat.zero_le _,rfl,U.only [1,3,6,8,9,10,11,12,13],mz.ren [(1,1),(6,6),(9,9),(10,10),(3,3),(12,102),(13,101),(14,14)] (by decide)⟩
   clear U cm
   rintro g Y dQ ⟨j,B3,B6,B9,aI,p,p2,px,c,c2,cx9,hjl,hg2,U,aE⟩
   refine wsk fun dR bR =>?_
   refine la U (.move rfl<|.fa 1 rfl U30<|.lb aE 12 U28 rfl rfl rfl<|.len rfl U28<|.lss rfl rfl .nil) fun Y U =>?_
   refine bc U 67 ?_ ?_
   ·
    intro ah U;try simp only [QQ,Qax] at ah
    rw[List.length_map] at ah
    have hj:j<xl.length:=by omega
    obtain⟨⟨xb,xd⟩,hxs⟩:∃ e,xl[j]? = some e:=⟨_,List.getElem?_eq_getElem hj⟩
    have hxb:=hib2 _ (List.mem_of_getElem? hxs)
    dsimp only at hxb
    have hed:=hok2.2 _ (List.mem_of_getElem? hxs)
    dsimp only at hed
    refine wct U ?_
    refine zss (bR _ _ ?_)
    refine wsk fun dS aJ =>?_
    refine wp_block ?_
    refine wsk fun dT bS =>?_
    obtain⟨cG,cH,co,aS,aT,aU,aV⟩:=aE.openR (i:=13) rfl (j) (r:=[.v (.int .i64 xb),.ns .u8 xd]) (lm hxs) 200 rfl
    revert U
    cases aS;clear aE aU
    rcases aT with _|⟨aq,_|⟨aa,_|_⟩⟩
    obtain rfl:=aq.v_out
    clear aq
    obtain⟨cI,cJ,aW,cq⟩:=aa.ns_shape;subst aW
    intro U
    have bT:=aV.dat 201 rfl (aa.cast (fun _ h=>(lf rfl h)));clear aV aa
    have aK:=bT.oz [1,3,6,9,10,12,13,14,200,201]
    refine region_p 12 (B:=[(1,_),(3,_),(6,_),(9,_),(10,_),(12,_),(13,_),(14,_),(200,_),(201,_)]) (aK.to qt) aK (by kernel_rfl) (fun cK aX ai =>?_);clear aK
    refine goR aX [0,1,2,3,4,5,6,7,8,9,10,11] [1,5,8] 12 0 4095 U (ai.to qt) (.fa 1 rfl U30<|.lb hh 12 U28 rfl rfl rfl<|.move rfl<|.p (fun _ _ h_=>li h_ rfl rfl U28 lX (j) rfl (by simpa using hj))<|.fieldAddrQ 0 rfl U78 rfl (s:=0) (by kernel_rfl) rfl<|.loadC0 hh (i:=200) rfl rfl U3 rfl<|.move rfl<|.fa 3 rfl U34<|.lb hh 1 U3 rfl rfl rfl<|.mul rfl rfl (r:=fi) (by rw[hfi];exact IntWalk.i64_in _ (by omega))<|.sub rfl rfl (r:=xb - fi) (IntWalk.i64_in _ (by omega))<|.assign rfl .nil) fun Y U =>?_
    refine wad ?_
    refine bS _ _ ?_
    replace U:=U.oz [1,3,6,8,9,10,11,12,13,14]
    refine zsr fun dU aY =>?_
    refine k9 U (.move rfl<|.geq rfl rfl<|.move rfl .nil) fun Y U =>?_
    refine bc U 83 ?_ ?_
    ·
     intro az U;try simp only [QQ,Qax] at az
     refine gz aY U (.moveZ rfl<|.moveZ rfl<|.lssZ rfl rfl<|.pickT rfl rfl<|.nil) fun Y U =>?_
     refine bc U 87 ?_ ?_
     ·
      intro aA U;try simp only [QQ,Qax] at aA
      refine wct U ?_
      refine wp_region_lit ?_
      refine k9 U (.move rfl<|.move rfl<|.fa 1 rfl U30<|.lb ai 12 U28 rfl rfl rfl<|.move rfl .nil) fun Y U =>?_
      obtain⟨cL,cM,cr,aZ,a0,a1,a2⟩:=ai.openR (i:=13) rfl (j) (r:=[.v (.int .i64 xb),.ns .u8 xd]) (lm hxs) 202 rfl
      revert U
      cases aZ;clear ai a1
      rcases a0 with _|⟨ar,_|⟨ab,_|_⟩⟩
      obtain rfl:=ar.v_out
      clear ar
      obtain⟨cN,cO,a3,ct⟩:=ab.ns_shape;subst a3
      intro U
      have aL:=a2.dat 203 rfl (ab.cast (fun _ h=>(lf rfl h)));clear a2 ab
      refine k9 U (.c rfl (fun _ h_=>li h_ rfl rfl U28 lX (j) rfl (by simpa using hj))<|.fieldAddrQ 1 rfl U78 rfl (s:=0) (by kernel_rfl) rfl<|.loadC1 aL (i:=202) (q:=1) rfl rfl rfl U22 rfl<|.build rfl pz vk rfl (by dsimp only [l9,List.set] <;> rfl) .nil) fun Y U =>?_
      refine plz (lq U aL 204 (mm:=2) rfl (.cons rfl rfl (.cons (.v _) (.cons (aL.rd (i:=203) rfl) .nil)) .nil) U28 ow rfl rfl rfl rfl rfl fun cP Y cQ U bU =>?_)
      have a4:=bU.freezeR 204 rfl
      refine plz (lC U a4 14 rfl rfl rfl (a4.rd (i:=204) rfl) U28 ow rfl rfl (by decide) (by have:=oR fi cnt (xl.take j);rw[List.length_take] at this;simp;omega) rfl fun cR cS Y cT U a5 =>?_)
      refine gz aJ U (.assign rfl .nil) fun Y U =>?_
      replace U:=U.oz [1,3,6,8,9,10,11,12,13,83,87]
      refine wp_region_lit ?_
      refine k9 U (.move rfl<|.inc (j+1)<|.assign rfl .nil) fun Y U =>?_
      refine wpList_nil ?_
      show ∃ n',n'<_∧_
      have hE:(lu fi cnt (xl.take j)).map itD++[[D.v (.int .i64 (xb - fi)),.ns .u8 xd]]=(lu fi cnt (xl.take (j+1))).map itD:=by rw[qi hxs (by omega),List.map_append];rfl
      rw[hE] at a5 U
      exact⟨xl.length - (j+1),by omega,j+1,_,_,_,_,_,_,_,_,_,_,by omega,rfl,U.only [1,3,6,8,9,10,11,12,13],a5.ren [(1,1),(6,6),(9,9),(10,10),(3,3),(12,12),(13,13),(14,14)] (by decide)⟩
     intro aA U;try simp only [QQ,Qax] at aA
     refine wcf U ?_
     refine zss (aJ _ _ ?_)
     replace U:=U.oz [1,3,6,8,9,10,11,12,13,83,87]
     refine wp_region_lit ?_
     refine k9 U (.move rfl<|.inc (j+1)<|.assign rfl .nil) fun Y U =>?_
     refine wpList_nil ?_
     show ∃ n',n'<_∧_
     have hE:(lu fi cnt (xl.take j))=lu fi cnt (xl.take (j+1)):=(oI hxs (by omega)).symm
     rw[hE] at ai U
     exact⟨xl.length - (j+1),by omega,j+1,_,_,_,_,_,_,_,_,_,_,by omega,rfl,U.only [1,3,6,8,9,10,11,12,13],ai.ren [(1,1),(6,6),(9,9),(10,10),(3,3),(12,12),(13,13),(14,14)] (by decide)⟩
    intro az U;try simp only [QQ,Qax] at az
    refine gz aY U (.sk<|.sk<|.sk<|.pickF rfl rfl<|.nil) fun Y U =>?_
    refine wcf U ?_
    refine zss (aJ _ _ ?_)
    replace U:=U.oz [1,3,6,8,9,10,11,12,13,83,87]
    refine wp_region_lit ?_
    refine k9 U (.move rfl<|.inc (j+1)<|.assign rfl .nil) fun Y U =>?_
    refine wpList_nil ?_
    show ∃ n',n'<_∧_
    have hE:(lu fi cnt (xl.take j))=lu fi cnt (xl.take (j+1)):=(oI hxs (by omega)).symm
    rw[hE] at ai U
    exact⟨xl.length - (j+1),by omega,j+1,_,_,_,_,_,_,_,_,_,_,by omega,rfl,U.only [1,3,6,8,9,10,11,12,13],ai.ren [(1,1),(6,6),(9,9),(10,10),(3,3),(12,12),(13,13),(14,14)] (by decide)⟩
   intro ah U;try simp only [QQ,Qax] at ah
   rw[List.length_map] at ah
   revert U
   obtain rfl:j=xl.length:=by omega
   intro U
   rw[List.take_length] at aE U
   refine wcf U ?_
   refine wp_exit ?_
   refine bQ _ _ ?_
   refine la U (.move rfl<|.len rfl U28<|.gtr rfl rfl .nil) fun Y U =>?_
   refine bc U 101 ?_ ?_
   ·
    intro aj U;try simp only [QQ,Qax] at aj
    refine wct U ?_
    replace U:=U.oz [1,3,6,8,9,10,11,12,13,101]
    refine wp_region_lit ?_
    refine k9 U (.fa 7 rfl U25<|.lb aE 9 U23 rfl rfl rfl<|.fa 0 rfl U30<|.lb aE 12 U2 rfl rfl rfl<|.move rfl<|.build rfl rJ vj rfl (by dsimp only [l9,List.set] <;> rfl) .nil) fun Y U =>?_
    have a6:=aE.freezeR 14 rfl
    refine plz (lq U a6 200 (mm:=2) rfl (.cons rfl rfl (.cons (.v _) (.cons (a6.rd (i:=14) rfl) .nil)) .nil) U23 oM rfl rfl rfl rfl rfl fun cU Y cV U bV =>?_)
    have a7:=bV.freezeR 200 rfl
    refine plz (lC U a7 10 rfl rfl rfl (a7.rd (i:=200) rfl) U23 oM rfl rfl (by decide) (by have:=qH fi cnt (W2.take k);rw[List.length_take] at this;simp;omega) rfl fun cW cX Y cY U bW =>?_)
    refine k9 U (.fieldAddr (off:=7) rfl U25 rfl (s:=0) (by kernel_rfl) rfl .nil) fun Y U =>?_
    refine plz (st1 U bW 9 uf fun cZ a8 _ =>?_)
    refine znl (hK8 _ _ ?_)
    replace U:=U.oz [1,3,6,8,9,10,11,12,13,101]
    refine wp_region_lit ?_
    refine k9 U (.move rfl<|.add rfl rfl (r:=((mk+(k+1):Nat):Int)) (by rw[IntWalk.i64_in _ (by omega)];omega)<|.assign rfl .nil) fun Y U =>?_
    refine wpList_nil ?_
    show ∃ n',n'<_∧_
    have hE:(lI fi cnt (W2.take k)).map wrD++[[D.v (.int .i64 xs),.l 2 ((lu fi cnt xl).map itD)]]=(lI fi cnt (W2.take (k+1))).map wrD:=by rw[tf hes2 (by have h9:=aj;rw[List.length_map] at h9;omega),List.map_append];rfl
    rw[hE] at a8
    exact⟨tq - mk - (k+1),by omega,k+1,_,_,_,_,_,by omega,rfl,U.only [1,3,6,8,9,10],a8.ren [(1,1),(6,6),(9,9),(10,10),(3,3)] (by decide)⟩
   intro aj U;try simp only [QQ,Qax] at aj
   refine wcf U ?_
   refine zss (hK8 _ _ ?_)
   replace U:=U.oz [1,3,6,8,9,10,11,12,13,101]
   refine wp_region_lit ?_
   refine k9 U (.move rfl<|.add rfl rfl (r:=((mk+(k+1):Nat):Int)) (by rw[IntWalk.i64_in _ (by omega)];omega)<|.assign rfl .nil) fun Y U =>?_
   refine wpList_nil ?_
   show ∃ n',n'<_∧_
   have hE:(lI fi cnt (W2.take k))=lI fi cnt (W2.take (k+1)):=(vn hes2 (by have h9:=aj;rw[List.length_map] at h9;omega)).symm
   rw[hE] at aE
   exact⟨tq - mk - (k+1),by omega,k+1,_,_,_,_,_,by omega,rfl,U.only [1,3,6,8,9,10],aE.ren [(1,1),(6,6),(9,9),(10,10),(3,3)] (by decide)⟩
  intro aH U;try simp only [QQ,Qax] at aH
  revert U
  obtain rfl:k=W2.length:=by omega
  intro U
  refine wcf U ?_
  refine wp_exit ?_
  refine hK6 _ _ ?_
  refine zsr fun dV bX =>?_
  refine k9 U (.loadBR aR (i:=9) rfl rfl U25 rfl lF (by simp) (by dsimp only [List.drop,List.take] <;> rfl) .nil) fun Y U =>?_
  refine plz (stw U aR 6 lF fun c0 a9 _ =>?_)
  refine gz bX U (.assign rfl .nil) fun Y U =>?_
  refine rtd (lL (fn:=Tryz.f36) U a9 (i:=6) rfl rfl rfl rfl U25 rfl lF ?_)
  rw[List.take_length] at *
  have bY:=a9.freezeR 10 rfl
  rw[hW2]
  exact⟨_,_,rfl,bY.ren [(3,3),(9,10)] (by decide)⟩
 refine lc U bJ 72 mL rfl fun c1 Y c3 U ba _ _ =>?_
 refine⟨fun _=>(ba.to i1l),?_⟩
 refine so 10 ?_
 refine ecb U Tryz.func37 rfl ba (vl _ _ _ _ _ _ _ _ _ _ _ _ _ _ _ _ _ _) fun Y c4 U aM =>?_
 refine⟨aM.to i1l,?_⟩
 refine goA aG [11,12] 2 10239 16383 U (aM.to i1l) (.p (fun _ _ h_=>qN h_ rfl rfl (r:=(tq:Int)) htq)<|.build rfl mL vi rfl (by dsimp only [l9,List.set] <;> rfl) .nil) fun Y U =>?_
 refine so 14 ?_
 refine stw U aM 72 lF fun c5 aF _ =>?_
 refine⟨aF.to i1l,?_⟩
 refine wad ?_
 refine hK4 _ _ ?_
 replace U:=U.oz [1,3,6,7,8,25,9]
 refine zsr fun dW bZ =>?_
 refine k9 U (.fa 8 rfl U34<|.lb aF 70 U2 rfl rfl rfl<|.fa 5 rfl U25<|.lb aF 72 U2 rfl rfl rfl<|.c rfl (fun _ h_=>qN h_ rfl rfl rfl)<|.fa 6 rfl U25 .nil) fun Y U =>?_
 refine plz (st1 U aF 72 l3 fun c6 aN _ =>?_)
 refine znl (bZ _ _ ?_)
 refine wsk fun dX b0 =>?_
 replace U:=U.oz [1,3,6,7,8,25,9]
 refine la U (.fa 4 rfl U25<|.lb aN 72 U2 rfl rfl rfl<|.assign rfl .nil) fun Y U =>?_
 refine wp_block ?_
 refine wp_loop_ghost (fun g a w => ∃ (k B3 B6 B9:Nat) (p:Option Addr) (c:Nat),mk+k≤tq∧g=tq - mk - k∧Has 112 [(1,.int .i64 ch),(3,.pointer (some ⟨B3,0,none⟩)),(6,.pointer (some ⟨B6,0,none⟩)),(8,.int .i64 cnt),(9,.pointer (some ⟨B9,0,none⟩)),(10,.int .i64 ((mk+k:Nat):Int))] a∧MemOk X w0 [(1,.box B3 34 [.int .i64 vo,.int .i64 bl,.int .i64 sz,.int .i64 pe,.slice pp place.length cp,.int .i64 to,.int .i64 ne,.bool hi,.int .i64 fl,.slice pn nn9 cn9,.slice pw (ws.map wrD).length cw]),(6,.box B6 25 [.int .i64 0,.int .i64 0,.int .i64 0,.int .i64 0,.int .i64 0,.int .i64 0,.int .i64 0,.slice none 0 0]),(9,.box B9 25 [.int .i64 vo,.int .i64 ch,.int .i64 cnt,.int .i64 sz,.int .i64 mk,.int .i64 tq,.int .i64 (min fl tq),.slice p ((lI fi cnt (W2.take k)).map wrD).length c]),(10,.row (.slice p ((lI fi cnt (W2.take k)).map wrD).length c) 30 2 ((lI fi cnt (W2.take k)).map wrD)),(3,.dat (.slice pw (ws.map wrD).length cw) (.l 2 (ws.map wrD)))] w) (tq - mk) ?_ ?_
 · have mz:=aN.nilR 10 30 2
   exact⟨0,_,_,_,_,_,by omega,rfl,U.only [1,3,6,8,9,10],mz.ren [(1,70),(6,71),(9,72),(10,10),(3,3)] (by decide)⟩
 clear U aN
 rintro g Y c7 ⟨k,B3,B6,B9,p,c,hkl,hg,U,ax⟩
 refine wsk fun dY b1 =>?_
 refine la U (.move rfl<|.fa 5 rfl U25<|.lb ax 9 U2 rfl rfl rfl<|.lss rfl rfl .nil) fun Y U =>?_
 refine bc U 55 ?_ ?_
 ·
  intro aB U;try simp only [QQ,Qax] at aB
  have hk:k<W2.length:=by omega
  obtain⟨⟨xs,xl⟩,hes2⟩:∃ e,W2[k]? = some e:=⟨_,List.getElem?_eq_getElem hk⟩
  have hes:ws[mk+k]? = some (xs,xl):=by rw[← hW2,List.getElem?_drop,List.getElem?_take] at hes2;split at hes2;(exact hes2);(cases hes2)
  have hok2:=hok _ (List.mem_of_getElem? hes)
  dsimp only at hok2
  have hib2:=hib _ (List.mem_of_getElem? hes)
  dsimp only at hib2
  refine wct U ?_
  refine zss (b1 _ _ ?_)
  refine wsk fun dZ bb =>?_
  refine wp_block ?_
  refine la U (.assign rfl .nil) fun Y U =>?_
  refine zsr fun d0 b4 =>?_
  refine k9 U (.fa 10 rfl U34<|.lb ax 1 U23 rfl rfl rfl<|.move rfl .nil) fun Y U =>?_
  obtain⟨bd,be,cu,bf,bg,bh,bi⟩:=ax.openR (i:=3) rfl ((mk+k)) (r:=[.v (.int .i64 xs),.l 2 (xl.map itD)]) (mj hes) 100 rfl
  revert U
  cases bf;clear ax bh
  rcases bg with _|⟨au,_|⟨ac,_|_⟩⟩
  obtain rfl:=au.v_out
  clear au
  obtain⟨c8,c9,bj,cv⟩:=ac.l_shape;subst bj
  intro U
  have bk:=bi.dat 101 rfl (ac.cast (fun _ h=>(lf rfl h)));clear bi ac
  refine k9 U (.c rfl (fun _ h_=>li h_ rfl rfl U23 nV ((mk+k)) rfl (by rw[List.length_map];omega))<|.loadCR bk (i:=100) rfl rfl U30 rfl nV .nil) fun Y U =>?_
  refine plz (lc U bk 102 rJ rfl fun da Y db U b5 _ _ =>?_)
  refine plz (stw U b5 102 nV fun dc bm _ =>?_)
  refine znl (b4 _ _ ?_)
  refine wsk fun d1 b6 =>?_
  replace U:=U.oz [1,3,6,8,9,10,11,12]
  refine la U (.assign rfl .nil) fun Y U =>?_
  refine wp_block ?_
  refine wp_loop_ghost (fun g a w => ∃ (j B3 B6 B9 aI:Nat) (p p2 px:Option Addr) (c c2 cx9:Nat),j≤xl.length∧g=xl.length - j∧Has 112 [(1,.int .i64 ch),(3,.pointer (some ⟨B3,0,none⟩)),(6,.pointer (some ⟨B6,0,none⟩)),(8,.int .i64 cnt),(9,.pointer (some ⟨B9,0,none⟩)),(10,.int .i64 ((mk+k:Nat):Int)),(11,.slice p2 ((lu fi cnt (xl.take j)).map itD).length c2),(12,.pointer (some ⟨aI,0,none⟩)),(13,.int .i64 j)] a∧MemOk X w0 [(1,.box B3 34 [.int .i64 vo,.int .i64 bl,.int .i64 sz,.int .i64 pe,.slice pp place.length cp,.int .i64 to,.int .i64 ne,.bool hi,.int .i64 fl,.slice pn nn9 cn9,.slice (some ⟨bd,be,none⟩) (ws.map wrD).length cw]),(6,.box B6 25 [.int .i64 0,.int .i64 0,.int .i64 0,.int .i64 0,.int .i64 0,.int .i64 0,.int .i64 0,.slice none 0 0]),(9,.box B9 25 [.int .i64 vo,.int .i64 ch,.int .i64 cnt,.int .i64 sz,.int .i64 mk,.int .i64 tq,.int .i64 (min fl tq),.slice p ((lI fi cnt (W2.take k)).map wrD).length c]),(10,.row (.slice p ((lI fi cnt (W2.take k)).map wrD).length c) 30 2 ((lI fi cnt (W2.take k)).map wrD)),(3,.dat (.slice (some ⟨bd,be,none⟩) (ws.map wrD).length cw) (.l 2 (ws.map wrD))),(12,.box aI 30 [.int .i64 xs,.slice px (xl.map itD).length cx9]),(13,.dat (.slice px (xl.map itD).length cx9) (.l 2 (xl.map itD))),(14,.row (.slice p2 ((lu fi cnt (xl.take j)).map itD).length c2) 78 2 ((lu fi cnt (xl.take j)).map itD))] w) (xl.length) ?_ ?_
  · have mz:=bm.nilR 14 78 2
    exact⟨0,_,_,_,_,_,_,_,_,_,_,Nat.zero_le _,rfl,U.only [1,3,6,8,9,10,11,12,13],mz.ren [(1,1),(6,6),(9,9),(10,10),(3,3),(12,102),(13,101),(14,14)] (by decide)⟩
  clear U bm
  rintro g Y de ⟨j,B3,B6,B9,aI,p,p2,px,c,c2,cx9,hjl,hg2,U,ad⟩
  refine wsk fun d2 b7 =>?_
  refine la U (.move rfl<|.fa 1 rfl U30<|.lb ad 12 U28 rfl rfl rfl<|.len rfl U28<|.lss rfl rfl .nil) fun Y U =>?_
  refine bc U 67 ?_ ?_
  ·
   intro ak U;try simp only [QQ,Qax] at ak
   rw[List.length_map] at ak
   have hj:j<xl.length:=by omega
   obtain⟨⟨xb,xd⟩,hxs⟩:∃ e,xl[j]? = some e:=⟨_,List.getElem?_eq_getElem hj⟩
   have hxb:=hib2 _ (List.mem_of_getElem? hxs)
   dsimp only at hxb
   have hed:=hok2.2 _ (List.mem_of_getElem? hxs)
   dsimp only at hed
   refine wct U ?_
   refine zss (b7 _ _ ?_)
   refine wsk fun d3 aO =>?_
   refine wp_block ?_
   refine wsk fun d4 b8 =>?_
   obtain⟨df,dg,cy,bn,bo,bp,bq⟩:=ad.openR (i:=13) rfl (j) (r:=[.v (.int .i64 xb),.ns .u8 xd]) (lm hxs) 200 rfl
   revert U
   cases bn;clear ad bp
   rcases bo with _|⟨av,_|⟨ae,_|_⟩⟩
   obtain rfl:=av.v_out
   clear av
   obtain⟨dh,di,br,cz⟩:=ae.ns_shape;subst br
   intro U
   have b9:=bq.dat 201 rfl (ae.cast (fun _ h=>(lf rfl h)));clear bq ae
   have aP:=b9.oz [1,3,6,9,10,12,13,14,200,201]
   refine region_p 12 (B:=[(1,_),(3,_),(6,_),(9,_),(10,_),(12,_),(13,_),(14,_),(200,_),(201,_)]) (aP.to qt) aP (by kernel_rfl) (fun dj bs al =>?_);clear aP
   refine goR bs [0,1,2,3,4,5,6,7,8,9,10,11] [1,5,8] 12 0 4095 U (al.to qt) (.fa 1 rfl U30<|.lb hh 12 U28 rfl rfl rfl<|.move rfl<|.p (fun _ _ h_=>li h_ rfl rfl U28 lX (j) rfl (by simpa using hj))<|.fieldAddrQ 0 rfl U78 rfl (s:=0) (by kernel_rfl) rfl<|.loadC0 hh (i:=200) rfl rfl U3 rfl<|.move rfl<|.fa 3 rfl U34<|.lb hh 1 U3 rfl rfl rfl<|.mul rfl rfl (r:=fi) (by rw[hfi];exact IntWalk.i64_in _ (by omega))<|.sub rfl rfl (r:=xb - fi) (IntWalk.i64_in _ (by omega))<|.assign rfl .nil) fun Y U =>?_
   refine wad ?_
   refine b8 _ _ ?_
   replace U:=U.oz [1,3,6,8,9,10,11,12,13,14]
   refine zsr fun d5 bt =>?_
   refine k9 U (.move rfl<|.geq rfl rfl<|.move rfl .nil) fun Y U =>?_
   refine bc U 83 ?_ ?_
   ·
    intro aC U;try simp only [QQ,Qax] at aC
    refine gz bt U (.moveZ rfl<|.moveZ rfl<|.lssZ rfl rfl<|.pickT rfl rfl<|.nil) fun Y U =>?_
    refine bc U 87 ?_ ?_
    ·
     intro aD U;try simp only [QQ,Qax] at aD
     refine wct U ?_
     refine wp_region_lit ?_
     refine k9 U (.move rfl<|.move rfl<|.fa 1 rfl U30<|.lb al 12 U28 rfl rfl rfl<|.move rfl .nil) fun Y U =>?_
     obtain⟨dk,dl,cA,bu,bv,bw,bx⟩:=al.openR (i:=13) rfl (j) (r:=[.v (.int .i64 xb),.ns .u8 xd]) (lm hxs) 202 rfl
     revert U
     cases bu;clear al bw
     rcases bv with _|⟨aw,_|⟨ag,_|_⟩⟩
     obtain rfl:=aw.v_out
     clear aw
     obtain⟨dm,dn,bz,cB⟩:=ag.ns_shape;subst bz
     intro U
     have aQ:=bx.dat 203 rfl (ag.cast (fun _ h=>(lf rfl h)));clear bx ag
     refine k9 U (.c rfl (fun _ h_=>li h_ rfl rfl U28 lX (j) rfl (by simpa using hj))<|.fieldAddrQ 1 rfl U78 rfl (s:=0) (by kernel_rfl) rfl<|.loadC1 aQ (i:=202) (q:=1) rfl rfl rfl U22 rfl<|.build rfl pz vk rfl (by dsimp only [l9,List.set] <;> rfl) .nil) fun Y U =>?_
     refine plz (lq U aQ 204 (mm:=2) rfl (.cons rfl rfl (.cons (.v _) (.cons (aQ.rd (i:=203) rfl) .nil)) .nil) U28 ow rfl rfl rfl rfl rfl fun dp Y dq U ca =>?_)
     have bA:=ca.freezeR 204 rfl
     refine plz (lC U bA 14 rfl rfl rfl (bA.rd (i:=204) rfl) U28 ow rfl rfl (by decide) (by have:=oR fi cnt (xl.take j);rw[List.length_take] at this;simp;omega) rfl fun dr ds Y dt U bB =>?_)
     refine gz aO U (.assign rfl .nil) fun Y U =>?_
     replace U:=U.oz [1,3,6,8,9,10,11,12,13,83,87]
     refine wp_region_lit ?_
     refine k9 U (.move rfl<|.inc (j+1)<|.assign rfl .nil) fun Y U =>?_
     refine wpList_nil ?_
     show ∃ n',n'<_∧_
     have hE:(lu fi cnt (xl.take j)).map itD++[[D.v (.int .i64 (xb - fi)),.ns .u8 xd]]=(lu fi cnt (xl.take (j+1))).map itD:=by rw[qi hxs (by omega),List.map_append];rfl
     rw[hE] at bB U
     exact⟨xl.length - (j+1),by omega,j+1,_,_,_,_,_,_,_,_,_,_,by omega,rfl,U.only [1,3,6,8,9,10,11,12,13],bB.ren [(1,1),(6,6),(9,9),(10,10),(3,3),(12,12),(13,13),(14,14)] (by decide)⟩
    intro aD U;try simp only [QQ,Qax] at aD
    refine wcf U ?_
    refine zss (aO _ _ ?_)
    replace U:=U.oz [1,3,6,8,9,10,11,12,13,83,87]
    refine wp_region_lit ?_
    refine k9 U (.move rfl<|.inc (j+1)<|.assign rfl .nil) fun Y U =>?_
    refine wpList_nil ?_
    show ∃ n',n'<_∧_
    have hE:(lu fi cnt (xl.take j))=lu fi cnt (xl.take (j+1)):=(oI hxs (by omega)).symm
    rw[hE] at al U
    exact⟨xl.length - (j+1),by omega,j+1,_,_,_,_,_,_,_,_,_,_,by omega,rfl,U.only [1,3,6,8,9,10,11,12,13],al.ren [(1,1),(6,6),(9,9),(10,10),(3,3),(12,12),(13,13),(14,14)] (by decide)⟩
   intro aC U;try simp only [QQ,Qax] at aC
   refine gz bt U (.sk<|.sk<|.sk<|.pickF rfl rfl<|.nil) fun Y U =>?_
   refine wcf U ?_
   refine zss (aO _ _ ?_)
   replace U:=U.oz [1,3,6,8,9,10,11,12,13,83,87]
   refine wp_region_lit ?_
   refine k9 U (.move rfl<|.inc (j+1)<|.assign rfl .nil) fun Y U =>?_
   refine wpList_nil ?_
   show ∃ n',n'<_∧_
   have hE:(lu fi cnt (xl.take j))=lu fi cnt (xl.take (j+1)):=(oI hxs (by omega)).symm
   rw[hE] at al U
   exact⟨xl.length - (j+1),by omega,j+1,_,_,_,_,_,_,_,_,_,_,by omega,rfl,U.only [1,3,6,8,9,10,11,12,13],al.ren [(1,1),(6,6),(9,9),(10,10),(3,3),(12,12),(13,13),(14,14)] (by decide)⟩
  intro ak U;try simp only [QQ,Qax] at ak
  rw[List.length_map] at ak
  revert U
  obtain rfl:j=xl.length:=by omega
  intro U
  rw[List.take_length] at ad U
  refine wcf U ?_
  refine wp_exit ?_
  refine b6 _ _ ?_
  refine la U (.move rfl<|.len rfl U28<|.gtr rfl rfl .nil) fun Y U =>?_
  refine bc U 101 ?_ ?_
  ·
   intro ao U;try simp only [QQ,Qax] at ao
   refine wct U ?_
   replace U:=U.oz [1,3,6,8,9,10,11,12,13,101]
   refine wp_region_lit ?_
   refine k9 U (.fa 7 rfl U25<|.lb ad 9 U23 rfl rfl rfl<|.fa 0 rfl U30<|.lb ad 12 U2 rfl rfl rfl<|.move rfl<|.build rfl rJ vj rfl (by dsimp only [l9,List.set] <;> rfl) .nil) fun Y U =>?_
   have bC:=ad.freezeR 14 rfl
   refine plz (lq U bC 200 (mm:=2) rfl (.cons rfl rfl (.cons (.v _) (.cons (bC.rd (i:=14) rfl) .nil)) .nil) U23 oM rfl rfl rfl rfl rfl fun du Y dv U cb =>?_)
   have bE:=cb.freezeR 200 rfl
   refine plz (lC U bE 10 rfl rfl rfl (bE.rd (i:=200) rfl) U23 oM rfl rfl (by decide) (by have:=qH fi cnt (W2.take k);rw[List.length_take] at this;simp;omega) rfl fun dw dx Y dy U cc =>?_)
   refine k9 U (.fieldAddr (off:=7) rfl U25 rfl (s:=0) (by kernel_rfl) rfl .nil) fun Y U =>?_
   refine plz (st1 U cc 9 uf fun dz bF _ =>?_)
   refine znl (bb _ _ ?_)
   replace U:=U.oz [1,3,6,8,9,10,11,12,13,101]
   refine wp_region_lit ?_
   refine k9 U (.move rfl<|.add rfl rfl (r:=((mk+(k+1):Nat):Int)) (by rw[IntWalk.i64_in _ (by omega)];omega)<|.assign rfl .nil) fun Y U =>?_
   refine wpList_nil ?_
   show ∃ n',n'<_∧_
   have hE:(lI fi cnt (W2.take k)).map wrD++[[D.v (.int .i64 xs),.l 2 ((lu fi cnt xl).map itD)]]=(lI fi cnt (W2.take (k+1))).map wrD:=by rw[tf hes2 (by have h9:=ao;rw[List.length_map] at h9;omega),List.map_append];rfl
   rw[hE] at bF
   exact⟨tq - mk - (k+1),by omega,k+1,_,_,_,_,_,by omega,rfl,U.only [1,3,6,8,9,10],bF.ren [(1,1),(6,6),(9,9),(10,10),(3,3)] (by decide)⟩
  intro ao U;try simp only [QQ,Qax] at ao
  refine wcf U ?_
  refine zss (bb _ _ ?_)
  replace U:=U.oz [1,3,6,8,9,10,11,12,13,101]
  refine wp_region_lit ?_
  refine k9 U (.move rfl<|.add rfl rfl (r:=((mk+(k+1):Nat):Int)) (by rw[IntWalk.i64_in _ (by omega)];omega)<|.assign rfl .nil) fun Y U =>?_
  refine wpList_nil ?_
  show ∃ n',n'<_∧_
  have hE:(lI fi cnt (W2.take k))=lI fi cnt (W2.take (k+1)):=(vn hes2 (by have h9:=ao;rw[List.length_map] at h9;omega)).symm
  rw[hE] at ad
  exact⟨tq - mk - (k+1),by omega,k+1,_,_,_,_,_,by omega,rfl,U.only [1,3,6,8,9,10],ad.ren [(1,1),(6,6),(9,9),(10,10),(3,3)] (by decide)⟩
 intro aB U;try simp only [QQ,Qax] at aB
 revert U
 obtain rfl:k=W2.length:=by omega
 intro U
 refine wcf U ?_
 refine wp_exit ?_
 refine b0 _ _ ?_
 refine zsr fun d6 cd =>?_
 refine k9 U (.loadBR ax (i:=9) rfl rfl U25 rfl lF (by simp) (by dsimp only [List.drop,List.take] <;> rfl) .nil) fun Y U =>?_
 refine plz (stw U ax 6 lF fun dA bG _ =>?_)
 refine gz cd U (.assign rfl .nil) fun Y U =>?_
 refine rtd (lL (fn:=Tryz.f36) U bG (i:=6) rfl rfl rfl rfl U25 rfl lF ?_)
 rw[List.take_length] at *
 have ce:=bG.freezeR 10 rfl
 rw[hW2]
 exact⟨_,_,rfl,ce.ren [(3,3),(9,10)] (by decide)⟩
end
section
abbrev Its:=List (Int×List Int)
abbrev Hs:=List (List Ver)
def sV(b:Int)(l:Its):Option (List Int):=(l.find? fun x=>decide (x.1=b)).map (·.2)
def pY(W:List PWr)(b:Int):List Ver:=W.filterMap fun e=>(sV b e.2).map fun d=>(e.1,d)
def Unl(l:Its):Prop:=l.Pairwise fun x y=>x.1≠y.1
def pT(s:Int)(H:Hs)(l:Its):Hs:=l.foldl (fun H x=>H.set x.1.toNat (mN (H.getD x.1.toNat []) s x.2)) H
def lP(m:Int)(H:Hs)(W:List PWr):Hs:=W.foldl (fun H e=>if e.1≤m then H else pT e.1 H e.2) H
theorem o9(b:Int)(x:Int×List Int)(l:Its):sV b (x :: l)=if x.1=b then some x.2 else sV b l:=by
 unfold sV
 rw[List.find?_cons]
 by_cases h:x.1=b
 · rw[if_pos h];simp [h]
 rw[if_neg h];simp [h]
theorem sW{b:Int}:∀ {l:Its},(∀ x∈l,x.1≠b)→sV b l=none
 | [],_=>rfl
 | x :: l,h=>by rw[o9,if_neg (h x (by simp)),sW (fun y hy=>h y (by simp [hy]))]
theorem yE(A B:List PWr)(b:Int):pY (A++B) b=pY A b++pY B b:=List.filterMap_append
theorem pa(e:PWr)(W:List PWr)(b:Int):pY (e :: W) b=((sV b e.2).map fun d=>(e.1,d)).toList++pY W b:=by
 unfold pY
 rw[List.filterMap_cons]
 cases sV b e.2 <;> rfl
theorem rk{H:Hs}{i j:Nat}(h:i≠j)(x:List Ver):(H.set i x).getD j []=H.getD j []:=by
 rw[List.getD,List.getElem?_set_ne h];rfl
theorem uL{H:Hs}{i:Nat}(h:i<H.length)(x:List Ver):(H.set i x).getD i []=x:=by
 rw[List.getD,List.getElem?_set_self h];rfl
theorem qE(s:Int):∀ (l:Its) (H:Hs),(pT s H l).length=H.length
 | [],H=>rfl
 | x :: l,H=>by
   show(pT s (H.set x.1.toNat _) l).length=_
   rw[qE s l,List.length_set]
theorem lU(m:Int):∀ (W:List PWr) (H:Hs),(lP m H W).length=H.length
 | [],H=>rfl
 | e :: W,H=>by
   show(lP m (if e.1≤m then H else pT e.1 H e.2) W).length=_
   rw[lU m W]
   split
   · rfl
   rw[qE]
theorem uM{s:Int}(hs:1≤s∧s≤1099511627776):∀ {l:Its} {H:Hs},Unl l→(∀ x∈l,0≤x.1∧x.1<(H.length:Int))→(∀ x∈l,∀ v∈H.getD x.1.toNat [],v.1<s)→∀ i:Nat,(pT s H l).getD i []=H.getD i []++((sV (i:Int) l).map fun d=>(s,d)).toList
 | [],H,_,_,_,i=>by
   show H.getD i []=_
   simp [sV]
 | x :: l,H,hu,hb,hv,i=>by
   show(pT s (H.set x.1.toNat (mN (H.getD x.1.toNat []) s x.2)) l).getD i []=_
   have hx:=hb x (by simp)
   have hu':=List.pairwise_cons.1 hu
   rw[yD hs (hv x (by simp))]
   have ih:=uM hs (l:=l) (H:=H.set x.1.toNat (H.getD x.1.toNat []++[(s,x.2)])) hu'.2 (fun y hy=>by rw[List.length_set];exact hb y (by simp [hy])) (fun y hy v h9=>by
     have h1:=hu'.1 y hy
     have h2:=hb y (by simp [hy])
     rw[rk (by omega)] at h9
     exact hv y (by simp [hy]) v h9) i
   rw[ih,o9]
   by_cases h:x.1=(i:Int)
   · rw[if_pos h,sW (fun y hy=>by rw[← h];exact fun e=>hu'.1 y hy e.symm)]
     rw[show x.1.toNat=i by omega,uL (by omega)]
     simp
   rw[if_neg h,rk (by omega)]
theorem pH{m:Int}:∀ {W:List PWr} {H:Hs},W.Pairwise (fun a b=>a.1<b.1)→(∀ e∈W,(1≤e.1∧e.1≤1099511627776)∧Unl e.2∧∀ x∈e.2,0≤x.1∧x.1<(H.length:Int))→(∀ i:Nat,∀ v∈H.getD i [],∀ e∈W,m<e.1→v.1<e.1)→∀ i:Nat,(lP m H W).getD i []=H.getD i []++pY (W.filter fun e=>decide (m<e.1)) (i:Int)
 | [],H,_,_,_,i=>by
   show H.getD i []=_
   simp [pY]
 | e :: W,H,hp,ha,hv,i=>by
   show(lP m (if e.1≤m then H else pT e.1 H e.2) W).getD i []=_
   have hp':=List.pairwise_cons.1 hp
   obtain⟨a1,a2,a3⟩:=ha e (by simp)
   by_cases hm:e.1≤m
   · rw[if_pos hm,pH hp'.2 (fun x hx=>ha x (by simp [hx])) (fun j v h9 x hx=>hv j v h9 x (by simp [hx])) i,List.filter_cons_of_neg (by simpa using hm)]
   rw[if_neg hm,List.filter_cons_of_pos (by simpa using hm),pa]
   have hat:=uM a1 (l:=e.2) (H:=H) a2 a3 (fun x hx v h9=>hv _ v h9 e (by simp) (by omega))
   rw[pH hp'.2 (fun x hx=>by rw[qE];exact ha x (by simp [hx])) (fun j v h9 x hx h8=>by
     rw[hat j] at h9
     rcases List.mem_append.1 h9 with h9|h9
     · exact hv j v h9 x (by simp [hx]) h8
     cases hh:sV (j:Int) e.2 with
     | none=>rw[hh] at h9;simp at h9
     | some d =>
       rw[hh] at h9
       simp at h9
       rw[h9]
       exact hp'.1 x hx) i,hat i,List.append_assoc]
theorem pI{fi cnt:Int}{i:Nat}(hi:(i:Int)<cnt):∀ {l:Its},sV (i:Int) (lu fi cnt l)=sV (fi+i) l
 | []=>rfl
 | x :: l=>by
   have ih:=pI (fi:=fi) (cnt:=cnt) hi (l:=l)
   unfold lu at ih ⊢
   rw[o9]
   by_cases h:fi≤x.1∧x.1≤fi+cnt - 1
   · rw[List.filter_cons_of_pos (by simpa using h),List.map_cons,o9,ih]
     by_cases h2:x.1=fi+i
     · rw[if_pos h2,if_pos (by show x.1 - fi=i;omega)]
     rw[if_neg h2,if_neg (by show ¬ x.1 - fi=i;omega)]
   rw[List.filter_cons_of_neg (by simpa using h),ih,if_neg (by omega)]
theorem sX{fi cnt:Int}{i:Nat}(hi:(i:Int)<cnt):∀ {W:List PWr},pY (lI fi cnt W) (i:Int)=pY W (fi+i)
 | []=>rfl
 | e :: W=>by
   have ih:=sX (fi:=fi) (cnt:=cnt) hi (W:=W)
   unfold lI at ih ⊢
   rw[List.map_cons,pa]
   by_cases h:0<(lu fi cnt e.2).length
   · rw[List.filter_cons_of_pos (by simpa using h),pa,ih,pI hi]
   rw[List.filter_cons_of_neg (by simpa using h),ih]
   have hn:lu fi cnt e.2=[]:=List.length_eq_zero_iff.1 (by omega)
   rw[← pI (fi:=fi) hi,hn]
   rfl
end
section
theorem pZ{bl sz:Int}{l:Its}(h:mb bl sz l):Unl l:=by
 unfold Unl
 rw[List.pairwise_iff_getElem]
 intro i j hi hj hij e
 have h1:=(h.2.2 j hj).2.2.2
 refine h1 ⟨l[i],?_,?_⟩
 · rw[List.mem_iff_getElem]
   exact⟨i,by rw[List.length_take];omega,by rw[List.getElem_take]⟩
 rw[List.getD,List.getElem?_eq_getElem hj];exact e
theorem tK{bl sz:Int}{ws:List PWr}(h:oD bl sz ws ws.length){j:Nat}(hj:j<ws.length):(ws[j]).1=j+1∧mb bl sz (ws[j]).2:=by
 have:=h j hj
 rw[List.getD,List.getElem?_eq_getElem hj] at this
 exact this
theorem q9{bl sz:Int}{ws:List PWr}(h:oD bl sz ws ws.length){e:PWr}(he:e∈ws):mb bl sz e.2∧1≤e.1∧e.1≤ws.length:=by
 obtain⟨j,hj,rfl⟩:=List.getElem_of_mem he
 have:=tK h hj
 exact⟨this.2,by omega,by omega⟩
theorem sf{bl sz:Int}{ws:List PWr}(h:oD bl sz ws ws.length){t:Nat}{e:PWr}(he:e∈ws.take t):1≤e.1∧e.1≤t:=by
 obtain⟨j,hj,rfl⟩:=List.getElem_of_mem he
 rw[List.length_take] at hj
 have:=tK h (j:=j) (by omega)
 rw[List.getElem_take]
 omega
theorem uN{bl sz:Int}{ws:List PWr}(h:oD bl sz ws ws.length){tq m:Nat}{e:PWr}(he:e∈(ws.take tq).drop m):(m:Int)<e.1:=by
 obtain⟨j,hj,rfl⟩:=List.getElem_of_mem he
 rw[List.length_drop,List.length_take] at hj
 have:=tK h (j:=m+j) (by omega)
 rw[List.getElem_drop,List.getElem_take]
 omega
theorem sg{bl sz:Int}{ws:List PWr}(h:oD bl sz ws ws.length):ws.Pairwise fun a b=>a.1<b.1:=by
 rw[List.pairwise_iff_getElem]
 intro i j hi hj hij
 have h1:=tK h hi
 have h2:=tK h hj
 omega
theorem uO{bl sz:Int}{ws:List PWr}(h:oD bl sz ws ws.length){mk m tq:Nat}(hm:mk≤m):((ws.take tq).drop mk).filter (fun e=>decide ((m:Int)<e.1))=(ws.take tq).drop m:=by
 have e:(ws.take tq).drop mk=((ws.take tq).drop mk).take (m - mk)++(ws.take tq).drop m:=by
   have h1:=(List.take_append_drop (m - mk) ((ws.take tq).drop mk)).symm
   rw[List.drop_drop,show mk+(m - mk)=m by omega] at h1
   exact h1
 rw[e,List.filter_append,List.filter_eq_nil_iff.2 (fun x hx =>?_),List.filter_eq_self.2 (fun x hx=>by simpa using uN h hx),List.nil_append]
 obtain⟨j,hj,rfl⟩:=List.getElem_of_mem hx
 rw[List.length_take,List.length_drop,List.length_take] at hj
 have h2:=tK h (j:=mk+j) (by omega)
 rw[List.getElem_take,List.getElem_drop,List.getElem_take]
 simp
 omega
theorem pJ{fi cnt:Int}{m:Int}:∀ {W:List PWr},(lI fi cnt W).filter (fun e=>decide (m<e.1))=lI fi cnt (W.filter fun e=>decide (m<e.1))
 | []=>rfl
 | e :: W=>by
   have ih:=pJ (fi:=fi) (cnt:=cnt) (m:=m) (W:=W)
   unfold lI at ih ⊢
   rw[List.map_cons]
   by_cases h:0<(lu fi cnt e.2).length
   · rw[List.filter_cons_of_pos (by simpa using h)]
     by_cases h2:m<e.1
     · rw[List.filter_cons_of_pos (by simpa using h2),List.filter_cons_of_pos (by simpa using h2),List.map_cons,List.filter_cons_of_pos (by simpa using h),ih]
     rw[List.filter_cons_of_neg (by simpa using h2),List.filter_cons_of_neg (by simpa using h2),ih]
   rw[List.filter_cons_of_neg (by simpa using h)]
   by_cases h2:m<e.1
   · rw[List.filter_cons_of_pos (by simpa using h2),List.map_cons,List.filter_cons_of_neg (by simpa using h),ih]
   rw[List.filter_cons_of_neg (by simpa using h2),ih]
theorem qx{fi cnt:Int}{W:List PWr}{e:PWr}(he:e∈lI fi cnt W):∃ w∈W,e=(w.1,lu fi cnt w.2):=by
 unfold lI at he
 obtain⟨w,hw,rfl⟩:=List.mem_map.1 (List.mem_filter.1 he).1
 exact⟨w,hw,rfl⟩
theorem rm{fi cnt:Int}{W:List PWr}(h:W.Pairwise fun a b=>a.1<b.1):(lI fi cnt W).Pairwise fun a b=>a.1<b.1:=by
 unfold lI
 refine List.Pairwise.filter _ ?_
 rw[List.pairwise_map]
 exact h
theorem uP{fi cnt:Int}{l:Its}(h:Unl l):Unl (lu fi cnt l):=by
 unfold lu Unl
 rw[List.pairwise_map]
 exact(List.Pairwise.filter _ h).imp fun {a b} hab=>by
   show a.1 - fi≠b.1 - fi
   intro e;exact hab (by omega)
theorem wk{fi cnt:Int}{l:Its}{x:Int×List Int}(h:x∈lu fi cnt l):0≤x.1∧x.1<cnt:=by
 unfold lu at h
 obtain⟨y,hy,rfl⟩:=List.mem_map.1 h
 have:=(List.mem_filter.1 hy).2
 simp at this
 constructor
 · show 0≤y.1 - fi;omega
 show y.1 - fi<cnt;omega
def tL(ws:List PWr)(fi:Int)(cnt m:Nat)(fl:Int):Hs:=(List.range cnt).map fun(i:Nat)=>lr (pY (ws.take m) (fi+(i:Int))) fl
theorem mv(ws:List PWr)(fi:Int)(cnt m:Nat)(fl:Int):(tL ws fi cnt m fl).length=cnt:=by unfold tL;rw[List.length_map,List.length_range]
theorem qF{ws:List PWr}{fi:Int}{cnt m:Nat}{fl:Int}{i:Nat}(hi:i<cnt):(tL ws fi cnt m fl).getD i []=lr (pY (ws.take m) (fi+(i:Int))) fl:=by
 unfold tL
 rw[List.getD,List.getElem?_map,List.getElem?_range hi];rfl
theorem si{W:List PWr}{b:Int}{v:Ver}(h:v∈pY W b):∃ e∈W,v.1=e.1∧∃ x∈e.2,v.2=x.2:=by
 unfold pY at h
 obtain⟨e,he,h2⟩:=List.mem_filterMap.1 h
 obtain⟨d,hd,rfl⟩:=Option.map_eq_some_iff.1 h2
 unfold sV at hd
 obtain⟨x,hx,rfl⟩:=Option.map_eq_some_iff.1 hd
 exact⟨e,he,rfl,x,List.mem_of_find?_eq_some hx,rfl⟩
theorem wm{W:List PWr}{b:Int}(h:W.Pairwise fun a b=>a.1<b.1):Rise (pY W b):=by
 induction W with
 | nil=>exact List.Pairwise.nil
 | cons e W ih =>
   have h1:=List.pairwise_cons.1 h
   rw[pa]
   cases sV b e.2 with
   | none=>exact ih h1.2
   | some d =>
     refine List.pairwise_cons.2 ⟨fun v hv =>?_,ih h1.2⟩
     obtain⟨e2,he2,h2,-⟩:=si hv
     have:=h1.1 e2 he2
     show e.1<v.1
     omega
theorem ro{h:List Ver}{f:Int}{v:Ver}(hv:v∈lr h f):v∈h:=List.mem_of_mem_drop hv
theorem uQ{bl sz:Int}{ws:List PWr}(hw:oD bl sz ws ws.length)(hwl:ws.length≤1000000){fi fl fl2:Int}{cnt mk m tq:Nat}(hmk:mk≤m)(hm:m≤ws.length)(hfl:fl≤fl2) :
   (lP m (tL ws fi cnt m fl) (lI fi cnt ((ws.take tq).drop mk))).map (fun h=>lr h fl2)=tL ws fi cnt (max m tq) fl2:=by
 have hsub:∀ w∈(ws.take tq).drop mk,w∈ws:=fun w h=>List.mem_of_mem_take (List.mem_of_mem_drop h)
 have hR:((ws.take tq).drop mk).Pairwise fun a b=>a.1<b.1:=((sg hw).take).drop
 have hA:=pH (m:=m) (W:=lI fi cnt ((ws.take tq).drop mk)) (H:=tL ws fi cnt m fl) (rm hR) (fun e he=>by
   obtain⟨w,h1,rfl⟩:=qx he
   have h2:=q9 hw (hsub w h1)
   refine⟨⟨h2.2.1,by have:=h2.2.2;show w.1≤_;omega⟩,uP (pZ h2.1),fun x hx =>?_⟩
   rw[mv]
   exact wk hx) (fun i v hv e he h9=>by
   rcases Nat.lt_or_ge i cnt with hi|hi
   · rw[qF hi] at hv
     obtain⟨e2,he2,h3,-⟩:=si (ro hv)
     have:=sf hw he2
     omega
   rw[List.getD,List.getElem?_eq_none (by rw[mv];exact hi)] at hv
   exact absurd hv (by simp))
 apply List.ext_getElem
 · rw[List.length_map,lU,mv,mv]
 intro i h1 h2
 rw[mv] at h2
 have hi:i<(lP m (tL ws fi cnt m fl) (lI fi cnt ((ws.take tq).drop mk))).length:=by rw[lU,mv];exact h2
 have e1:=hA i
 rw[List.getD,List.getElem?_eq_getElem hi] at e1
 have e2:=qF (ws:=ws) (fi:=fi) (m:=max m tq) (fl:=fl2) h2
 rw[List.getD,List.getElem?_eq_getElem (by rw[mv];exact h2)] at e2
 rw[List.getElem_map]
 simp only [Option.getD_some] at e1 e2
 rw[e1,e2,qF h2,pJ,uO hw hmk,sX (by omega),od hfl,← yE]
 congr 2
 rcases Nat.le_total m tq with h|h
 · rw[Nat.max_eq_right h]
   have h8:=List.take_append_drop m (ws.take tq)
   rw[List.take_take,Nat.min_eq_left h] at h8
   exact h8
 rw[Nat.max_eq_left h,List.drop_eq_nil_of_le (by rw[List.length_take];omega),List.append_nil]
theorem uR(ws:List PWr)(fi:Int)(cnt:Nat)(fl:Int):tL ws fi cnt 0 fl=List.replicate cnt []:=by
 apply List.ext_getElem
 · rw[mv,List.length_replicate]
 intro i h1 h2
 have h3:=qF (ws:=ws) (fi:=fi) (m:=0) (fl:=fl) (i:=i) (by rw[mv] at h1;exact h1)
 rw[List.getD,List.getElem?_eq_getElem h1] at h3
 rw[List.getElem_replicate]
 exact h3
theorem uS{bl sz:Int}{ws:List PWr}(hw:oD bl sz ws ws.length){fi fl:Int}{cnt m:Nat}{h:List Ver}(hh:h∈tL ws fi cnt m fl):Rise h∧(∀ v∈h,1≤v.1∧v.1≤m∧(v.2.length:Int)=sz)∧lr h fl=h∧h.length≤m:=by
 unfold tL at hh
 obtain⟨i,-,rfl⟩:=List.mem_map.1 hh
 have hr:Rise (pY (ws.take m) (fi+(i:Int))):=wm (sg hw).take
 refine⟨pX hr,fun v hv =>?_,?_,?_⟩
 · obtain⟨e,he,h1,x,hx,h2⟩:=si (ro hv)
   have h3:=sf hw he
   have h4:=(q9 hw (List.mem_of_mem_take he)).1
   obtain⟨j,hj,rfl⟩:=List.getElem_of_mem hx
   have h5:=(h4.2.2 j hj).2.2.1
   rw[List.getD,List.getElem?_eq_getElem hj] at h5
   refine⟨by omega,by omega,by rw[h2];exact h5⟩
 · have:=od (h:=pY (ws.take m) (fi+(i:Int))) (n:=[]) (f:=fl) (g:=fl) (Int.le_refl _)
   rwa [List.append_nil,List.append_nil] at this
 have h1:(lr (pY (ws.take m) (fi+(i:Int))) fl).length≤(pY (ws.take m) (fi+(i:Int))).length:=by unfold lr;rw[List.length_drop];omega
 have h2:(pY (ws.take m) (fi+(i:Int))).length≤(ws.take m).length:=List.length_filterMap_le _ _
 rw[List.length_take] at h2
 omega
end
end Go.Proofs.YteglmahnkfgelaaGreat.K
