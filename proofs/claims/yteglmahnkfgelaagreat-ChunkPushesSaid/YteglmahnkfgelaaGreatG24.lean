/- General laws of walks. -/
import Derived.Test.YteglmahnkfgelaaGreatG23
namespace Go.Proofs.YteglmahnkfgelaaGreat.K
open Go.ChangeShapes Go.WideShapes Go.ChangeAt Go.RowKit
set_option linter.unusedVariables false
set_option linter.unusedSimpArgs false
set_option maxRecDepth 100000
set_option maxHeartbeats 4000000
set_option autoImplicit true
set_option relaxedAutoImplicit true
section
theorem vZ:lR Tryz.prog 110 [.int .i64 0,.slice none 0 0]=true:=by kernel_rfl
theorem sc:lR Tryz.prog 39 [.int .i64 0,.int .i64 0,.int .i64 0,.int .i64 0,.int .i64 0,.int .i64 0,.slice none 0 0]=true:=by kernel_rfl
def P9(l:List Int):Prop:=l.length≤1000000∧lg l
theorem P9.suf{a b:List Int}(h:(a++b).length≤1000000∧lg (a++b)):b.length≤1000000∧lg b:=⟨by have:=h.1;rw[List.length_append] at this;omega,fun x hx=>h.2 x (List.mem_append_right _ hx)⟩
theorem wa{h:List Ver}{R:List Int}(hY:(h.flatMap itB++R).length≤1000000∧lg (h.flatMap itB++R))(j:Nat):((h.drop j).flatMap itB++R).length≤1000000∧lg ((h.drop j).flatMap itB++R):=by
 have e:h.flatMap itB++R=(h.take j).flatMap itB++((h.drop j).flatMap itB++R):=by rw[← List.append_assoc,← List.flatMap_append,List.take_append_drop]
 rw[e] at hY
 exact P9.suf hY
theorem pE{H:List (List Ver)}{R:List Int}(hY:(H.flatMap hsB++R).length≤1000000∧lg (H.flatMap hsB++R))(j:Nat):((H.drop j).flatMap hsB++R).length≤1000000∧lg ((H.drop j).flatMap hsB++R):=by
 have e:H.flatMap hsB++R=(H.take j).flatMap hsB++((H.drop j).flatMap hsB++R):=by rw[← List.append_assoc,← List.flatMap_append,List.take_append_drop]
 rw[e] at hY
 exact P9.suf hY
theorem wb{h:List Ver}{R:List Int}{j:Nat}{xs:Int}{xd:List Int}(hes:h[j]? = some (xs,xd))(h1:0≤xs∧xs≤1099511627776)(hd:xd.length≤32):∃ z,lQ ((h.drop j).flatMap itB++R) 0 1099511627776=(xs,z,0)∧lQ z 0 32=((xd.length:Int),xd++((h.drop (j+1)).flatMap itB++R),0):=by
 have hj:=(List.getElem?_eq_some_iff.1 hes)
 refine⟨enc (xd.length:Int)++(xd++((h.drop (j+1)).flatMap itB++R)),?_,lO _ (by omega) (by omega) _ _ (by omega)⟩
 have e:(h.drop j).flatMap itB++R=enc xs++(enc (xd.length:Int)++(xd++((h.drop (j+1)).flatMap itB++R))):=by
   rw[List.drop_eq_getElem_cons hj.1,hj.2,List.flatMap_cons]
   simp only [itB,l8,List.append_assoc]
 rw[e]
 exact lO _ (by omega) (by omega) _ _ (by omega)
theorem pF{H:List (List Ver)}{R:List Int}{k:Nat}{h9:List Ver}(hes:H[k]? = some h9)(hl:h9.length≤1000000):lQ ((H.drop k).flatMap hsB++R) 0 1099511627776=((h9.length:Int),h9.flatMap itB++((H.drop (k+1)).flatMap hsB++R),0):=by
 have hj:=(List.getElem?_eq_some_iff.1 hes)
 have e:(H.drop k).flatMap hsB++R=enc (h9.length:Int)++(h9.flatMap itB++((H.drop (k+1)).flatMap hsB++R)):=by
   rw[List.drop_eq_getElem_cons hj.1,hj.2,List.flatMap_cons]
   simp only [hsB,l8,List.append_assoc]
 rw[e]
 exact lO _ (by omega) (by omega) _ _ (by omega)
theorem tJ{vo ch cn sz mk fl:Int}{H:List (List Ver)}{R:List Int}(hC:xi vo ch cn sz mk fl H):∃ y1 y2 y3 y4 y5,lQ (oB vo ch cn sz mk fl H++R) 0 7=(vo,y1,0)∧lQ y1 0 255=(ch,y2,0)∧lQ y2 0 256=(cn,y3,0)∧lQ y3 0 32=(sz,y4,0)∧lQ y4 0 1099511627776=(mk,y5,0)∧lQ y5 0 1099511627776=(fl,H.flatMap hsB++R,0):=by
 obtain⟨⟨⟨hv0,hv1⟩,⟨hc0,hc1⟩,⟨hn0,hn1⟩,⟨hz0,hz1⟩⟩,h1,h2,h3,h4⟩:=hC
 have e:oB vo ch cn sz mk fl H++R=enc vo++(enc ch++(enc cn++(enc sz++(enc mk++(enc fl++(H.flatMap hsB++R)))))):=by
   have hnil:ll []=[]:=rfl
   unfold oB
   simp only [rh,hnil,List.nil_append,List.append_assoc]
 rw[e]
 exact⟨_,_,_,_,_,lO _ (by omega) (by omega) _ _ (by omega),lO _ (by omega) (by omega) _ _ (by omega),lO _ (by omega) (by omega) _ _ (by omega),lO _ (by omega) (by omega) _ _ (by omega),lO _ (by omega) (by omega) _ _ (by omega),lO _ (by omega) (by omega) _ _ (by omega)⟩
theorem oh(X:Cx)(h:List Ver)(R:List Int){b:List Int}(B:Nat)(p:Option Addr)(c:Nat)(w0:World)(hl:h.length≤1000000)(hb:b.length≤1000000∧lg b)(hv:∀ v∈h,(0≤v.1∧v.1≤1099511627776)∧v.2.length≤32)(hN:lQ b 0 1099511627776=((h.length:Int),h.flatMap itB++R,0))(m0:MemOk X w0 [(1,.box B 115 [.slice p (b).length c,.int .i64 0]),(2,.dat (.slice p (b).length c) (.ns .u8 (b)))] w0) :
   Calls Tryz.prog 69 #[.pointer (some ⟨B,0,none⟩)] w0 fun e w' => ∃ (p':Option Addr) (c':Nat) (p9:Option Addr) (c9:Nat),e=.returned (.slice p9 (h.map itD).length c9)∧MemOk X w0 [(1,.box B 115 [.slice p' (R).length c',.int .i64 0]),(2,.dat (.slice p' (R).length c') (.ns .u8 (R))),(9,.dat (.slice p9 (h.map itD).length c9) (.l 2 (h.map itD)))] w':=by
 refine mp Tryz.func69 rfl Tryz.ntmps69 fun Y U =>?_
 have hY:=mr hN hb
 refine la U (.assign rfl .nil) fun Y U =>?_
 refine la U (.assign rfl .nil) fun Y U =>?_
 refine wsk fun K0 hK0 =>?_
 refine zsr fun K1 hK1 =>?_
 refine k9 U (.move rfl .nil) fun Y U =>?_
 refine plz (ecl U Tryz.func59 rfl (nY (hN:=hN) _ _ _ _ _ hb.1 hb.2 (m0.into [(1,1),(2,2)] (by decide) rfl)) ?_)
 rintro e w5 ⟨p5,c5,rfl,hm5⟩
 have mx5:=m0.back hm5 [(1,1),(2,2)] (by decide);clear hm5 m0
 have m5:=mx5.oz [1,2]
 refine⟨_,rfl,?_⟩;intro Y U
 refine gz hK1 U (.move rfl .nil) fun Y U =>?_
 refine wp_block ?_
 refine wp_loop_ghost (fun g a w => ∃ (j:Nat) (p9 pr:Option Addr) (c9 cr:Nat),j≤h.length∧g=h.length - j∧Has 23 [(0,.pointer (some ⟨B,0,none⟩)),(3,.slice p9 ((h.take j).map itD).length c9),(6,.int .u64 (h.length:Nat)),(7,.int .u64 (j:Nat))] a∧MemOk X w0 [(1,.box B 115 [.slice pr (((h.drop j).flatMap itB++R)).length cr,.int .i64 0]),(2,.dat (.slice pr (((h.drop j).flatMap itB++R)).length cr) (.ns .u8 (((h.drop j).flatMap itB++R)))),(9,.row (.slice p9 ((h.take j).map itD).length c9) 110 2 ((h.take j).map itD))] w) (h.length) ?_ ?_
 · have mz:=m5.nilR 9 110 2
   have hE3:h.flatMap itB++R=((h.drop 0).flatMap itB++R):=by simp
   rw[hE3] at mz
   exact⟨0,_,_,_,_,Nat.zero_le _,rfl,U.only [0,3,6,7],mz.ren [(1,1),(2,2),(9,9)] (by decide)⟩
 clear U m5
 rintro g Y w8 ⟨j,p9,pr,c9,cr,hjl,hg,U,m8⟩
 refine la U (.lss rfl rfl .nil) fun Y U =>?_
 refine wsk fun K2 hK2 =>?_
 refine bc U 8 ?_ ?_
 ·
  intro aa U;try simp only [QQ,Qax] at aa
  have hj:j<h.length:=by have:=aa;first|omega|(simp at this;omega)
  obtain⟨⟨xs,xd⟩,hes⟩:∃ e,h[j]? = some e:=⟨_,List.getElem?_eq_getElem hj⟩
  have hxv:=hv _ (List.mem_of_getElem? hes)
  dsimp only at hxv
  have YB0:=wa hY j
  obtain⟨z2,hB1,hB2⟩:=wb (R:=R) hes hxv.1 hxv.2
  have YB1:=mr hB1 YB0
  refine wct U ?_
  refine zss (hK2 _ _ ?_)
  refine wsk fun K3 hK3 =>?_
  refine wp_block ?_
  refine zsr fun K4 hK4 =>?_
  refine k9 U (.move rfl .nil) fun Y U =>?_
  refine plz (ecl U Tryz.func58 rfl (mU hB1 _ _ _ _ _ YB0.1 YB0.2 (m8.into [(1,1),(2,2)] (by decide) rfl)) ?_)
  rintro e ax ⟨ay,az,rfl,ab⟩
  have ae:=m8.back ab [(1,1),(2,2)] (by decide);clear ab m8
  have ag:=ae.oz [1,2,9]
  refine⟨_,rfl,?_⟩;intro Y U
  refine k9 U (.move rfl .nil) fun Y U =>?_
  refine plz (ecl U Tryz.func60 rfl (sU hB2 _ _ _ _ _ YB1.1 YB1.2 (ag.into [(1,1),(2,2)] (by decide) rfl)) ?_)
  rintro e aA ⟨aB,aC,ap,aq,rfl,ac⟩
  have ah:=ag.back ac [(1,1),(2,2),(100,3)] (by decide);clear ac ag
  have ar:=ah.oz [1,2,100,9]
  refine⟨_,rfl,?_⟩;intro Y U
  refine k9 U (.build rfl oc vZ rfl (by dsimp only [l9,List.set] <;> rfl) .nil) fun Y U =>?_
  refine plz (lc U ar 101 oc rfl fun aD Y aE U au _ _ =>?_)
  refine plz (stw U au 101 lN fun aF ai _ =>?_)
  refine znl (hK4 _ _ ?_)
  refine wsk fun K5 hK5 =>?_
  replace U:=U.oz [0,3,6,7,4]
  refine zsr fun K6 hK6 =>?_
  refine k9 U (.move rfl .nil) fun Y U =>?_
  refine plz (ecl U Tryz.func61 rfl (ri _ _ _ _ _ _ _ (ai.into [(1,1),(2,2)] (by decide) rfl)) ?_)
  rintro e aG ⟨rfl,ad⟩
  have aj:=ai.back ad [(1,1),(2,2)] (by decide);clear ad ai
  have ak:=aj.oz [1,2,9,100,101]
  refine⟨_,rfl,?_⟩;intro Y U
  refine gz hK6 U (.neq rfl rfl .nil) fun Y U =>?_
  refine bcF U 16 fun U =>?_
  refine wcf U ?_
  refine zss (hK5 _ _ ?_)
  refine wp_region_lit ?_
  refine k9 U (.move rfl<|.loadBR ak (i:=101) rfl rfl nf rfl lN (by simp) (by dsimp only [List.drop,List.take] <;> rfl) .nil) fun Y U =>?_
  refine plz (lq U ak 102 (mm:=2) rfl (.cons rfl rfl (.cons (.v _) (.cons (ak.rd (i:=100) rfl) .nil)) .nil) U94 mX rfl rfl rfl rfl rfl fun aH Y aI U av =>?_)
  have al:=av.freezeR 102 rfl
  refine plz (lC U al 9 rfl rfl rfl (al.rd (i:=102) rfl) U94 mX rfl rfl (by decide) (by simp;omega) rfl fun aJ aK Y aL U ao =>?_)
  refine gz hK3 U (.assign rfl .nil) fun Y U =>?_
  replace U:=U.oz [0,3,6,7]
  refine wp_region_lit ?_
  refine k9 U (.add rfl rfl (r:=((j+1:Nat):Int)) (by rw[IntWalk.u64_in _ (by omega)];omega)<|.move rfl .nil) fun Y U =>?_
  refine wpList_nil ?_
  show ∃ n',n'<_∧_
  have hE:((h.take j).map itD)++[[D.v (.int .i64 xs),.ns .u8 xd]]=((h.take (j+1)).map itD):=by rw[ln hes,List.map_append];rfl
  rw[hE] at ao U
  exact⟨h.length - (j+1),by omega,j+1,_,_,_,_,by omega,rfl,U.only [0,3,6,7],ao.ren [(1,1),(2,2),(9,9)] (by decide)⟩
 intro aa U;try simp only [QQ,Qax] at aa
 revert U
 obtain rfl:j=h.length:=by have:=aa;first|omega|(simp at this;omega)
 intro U
 have hd0:(h.drop h.length).flatMap itB++R=R:=by simp
 rw[hd0,List.take_length] at m8
 rw[List.take_length] at U
 refine wcf U ?_
 refine wp_exit ?_
 refine hK0 _ _ ?_
 refine la U (.move rfl<|.assign rfl .nil) fun Y U =>?_
 refine rt1 U ?_
 have aw:=m8.freezeR 9 rfl
 exact⟨_,_,_,_,rfl,aw.ren [(1,1),(2,2),(9,9)] (by decide)⟩
theorem yp(X:Cx)(vo ch cn sz mk fl:Int)(H:List (List Ver))(R:List Int){b:List Int}(B:Nat)(p:Option Addr)(c:Nat)(w0:World)(hC:xi vo ch cn sz mk fl H)(hok:vr H)(hvs:∀ h∈H,∀ v∈h,(0≤v.1∧v.1≤1099511627776)∧v.2.length≤32)(hbe:b=oB vo ch cn sz mk fl H++R)(hb:b.length≤1000000∧lg b)(m0:MemOk X w0 [(1,.box B 115 [.slice p (b).length c,.int .i64 0]),(2,.dat (.slice p (b).length c) (.ns .u8 (b)))] w0) :
   Calls Tryz.prog 28 #[.pointer (some ⟨B,0,none⟩)] w0 fun e w' => ∃ (p':Option Addr) (c':Nat) (p9:Option Addr) (c9:Nat),e=.returned (.tuple #[.agg #[.int .i64 vo,.int .i64 ch,.int .i64 cn,.int .i64 sz,.int .i64 mk,.int .i64 fl,.slice p9 H.length c9],.bool true])∧MemOk X w0 [(1,.box B 115 [.slice p' (R).length c',.int .i64 0]),(2,.dat (.slice p' (R).length c') (.ns .u8 (R))),(9,.dat (.slice p9 H.length c9) (.l 1 (H.map hD)))] w':=by
 refine mp Tryz.func28 rfl Tryz.ntmps28 fun Y U =>?_
 obtain⟨y1,y2,y3,y4,y5,hN1,hN2,hN3,hN4,hN5,hN6⟩:=tJ (R:=R) hC
 rw[← hbe] at hN1
 have Y1:=mr hN1 hb
 have Y2:=mr hN2 Y1
 have Y3:=mr hN3 Y2
 have Y4:=mr hN4 Y3
 have Y5:=mr hN5 Y4
 have hY:=mr hN6 Y5
 have hcl:=hC.2.2.2.1
 have hcn:=hC.1.2.2.1
 refine zsr fun K0 hK0 =>?_
 refine plz (lc U m0 40 oV rfl fun g1 Y w2 U m2 _ _ =>?_)
 refine gz hK0 U (.assign rfl .nil) fun Y U =>?_
 refine wsk fun K1 hK1 =>?_
 refine la U (.move rfl<|.eqlP rfl rfl U62 .nil) fun Y U =>?_
 refine bcF U 7 fun U =>?_
 refine wcf U ?_
 refine zss (hK1 _ _ ?_)
 refine zsr fun K2 hK2 =>?_
 refine k9 U (.move rfl .nil) fun Y U =>?_
 refine plz (ecl U Tryz.func57 rfl (oW hN1 hN2 hN3 hN4 _ _ _ _ _ hb.1 hb.2 (m2.into [(1,1),(2,2)] (by decide) rfl)) ?_)
 rintro e w9 ⟨p9,c9,rfl,hm9⟩
 have mx9:=m2.back hm9 [(1,1),(2,2)] (by decide);clear hm9 m2
 have m9:=mx9.oz [1,2,40]
 refine⟨_,rfl,?_⟩;intro Y U
 refine plz (lc U m9 41 xg rfl fun cw Y cy U bT _ _ =>?_)
 refine plz (stw U bT 41 xf fun cz bU _ =>?_)
 refine znl (hK2 _ _ ?_)
 refine wsk fun K3 hK3 =>?_
 have bb:=bU.oz [1,2,40,41]
 refine region_p 14 (B:=[(41,_)]) (bb.to i1l) bb (by kernel_rfl) (fun cA ae aF =>?_);clear bb
 refine goR ae [0,1,2,3,4,5,6,7,8,10] [1,3,5,7] 10 0 1535 U (aF.to i1l) (.fa 0 rfl U88<|.lb hh 41 U3 rfl rfl rfl<|.fa 1 rfl U88<|.lb hh 41 U3 rfl rfl rfl<|.fa 2 rfl U88<|.lb hh 41 U3 rfl rfl rfl<|.fa 3 rfl U88<|.lb hh 41 U3 rfl rfl rfl<|.move rfl<|.move rfl .nil) fun Y U =>?_
 refine dtw 9 13 ?_ ?_
 ·
  refine ecl U Tryz.func58 rfl (mU hN5 _ _ _ _ _ Y4.1 Y4.2 (aF.into [(1,1),(2,2)] (by decide) rfl)) ?_
  rintro e cB ⟨cC,cD,rfl,aG⟩
  have bd:=aF.back aG [(1,1),(2,2)] (by decide);clear aG aF
  have aH:=bd.oz [1,2,40,41]
  refine⟨_,rfl,?_⟩;intro Y U
  refine⟨fun _=>(aH.to i1l),?_⟩
  refine dtw 11 13 ?_ ?_
  ·
   refine ecl U Tryz.func58 rfl (mU hN6 _ _ _ _ _ Y5.1 Y5.2 (aH.into [(1,1),(2,2)] (by decide) rfl)) ?_
   rintro e cE ⟨cF,cG,rfl,aI⟩
   have be:=aH.back aI [(1,1),(2,2)] (by decide);clear aI aH
   have bf:=be.oz [1,2,40,41]
   refine⟨_,rfl,?_⟩;intro Y U
   refine⟨fun _=>(bf.to i1l),?_⟩
   refine goA ae [12] 1 4095 8191 U (bf.to i1l) (.build rfl oV sc rfl (by dsimp only [l9,List.set] <;> rfl) .nil) fun Y U =>?_
   refine so 13 ?_
   refine lc U bf 42 oV rfl fun cH Y cI U bK _ _ =>?_
   refine⟨bK.to i1l,?_⟩
   refine se 14 ?_
   refine stw U bK 42 lH fun cJ bg _ =>?_
   refine wad ?_
   refine hK3 _ _ ?_
   refine wsk fun K4 hK4 =>?_
   replace U:=U.oz [0,2,3,5]
   refine la U (.fa 2 rfl U39<|.lb bg 42 U3 rfl rfl rfl<|.move rfl .nil) fun Y U =>?_
   refine wp_block ?_
   refine wp_loop_ghost (fun g a w => ∃ (k:Nat) (gZ gC:Nat) (pr p9:Option Addr) (cr c9:Nat),k≤H.length∧g=H.length - k∧Has 46 [(0,.pointer (some ⟨B,0,none⟩)),(2,.pointer (some ⟨gZ,0,none⟩)),(5,.pointer (some ⟨gC,0,none⟩)),(25,.int .i64 cn),(26,.int .i64 (k:Nat))] a∧MemOk X w0 [(1,.box B 115 [.slice pr (((H.drop k).flatMap hsB++R)).length cr,.int .i64 0]),(2,.dat (.slice pr (((H.drop k).flatMap hsB++R)).length cr) (.ns .u8 (((H.drop k).flatMap hsB++R)))),(22,.box gC 39 [.int .i64 vo,.int .i64 ch,.int .i64 cn,.int .i64 sz,.int .i64 mk,.int .i64 fl,.slice p9 ((H.take k).map hD).length c9]),(23,.row (.slice p9 ((H.take k).map hD).length c9) 94 1 ((H.take k).map hD)),(29,.box gZ 39 [.int .i64 0,.int .i64 0,.int .i64 0,.int .i64 0,.int .i64 0,.int .i64 0,.slice none 0 0])] w) (H.length) ?_ ?_
   · have mz:=bg.nilR 23 94 1
     have hE3:H.flatMap hsB++R=((H.drop 0).flatMap hsB++R):=by simp
     rw[hE3] at mz
     exact⟨0,_,_,_,_,_,_,Nat.zero_le _,rfl,U.only [0,2,5,25,26],mz.ren [(1,1),(2,2),(22,42),(23,23),(29,40)] (by decide)⟩
   clear U bg
   rintro g Y cK ⟨k,gZ,gC,pr,p9,cr,c9,hkl,hg,U,aJ⟩
   refine la U (.lss rfl rfl .nil) fun Y U =>?_
   refine wsk fun K5 hK5 =>?_
   refine bc U 27 ?_ ?_
   ·
    intro ab U;try simp only [QQ,Qax] at ab
    have hk:k<H.length:=by have:=ab;first|omega|(simp at this;omega)
    obtain⟨h9,hes⟩:∃ e,H[k]? = some e:=⟨_,List.getElem?_eq_getElem hk⟩
    have hh2:=hvs _ (List.mem_of_getElem? hes)
    have hh1:h9.length≤1000000:=(hok _ (List.mem_of_getElem? hes)).1
    have YH0:=pE hY k
    have hhN:=pF (R:=R) hes hh1
    refine wct U ?_
    refine zss (hK5 _ _ ?_)
    refine wsk fun K6 hK6 =>?_
    refine wp_block ?_
    have bh:=aJ.oz [1,2,22,23,29]
    refine region_p 7 (B:=[(22,_)]) (bh.to i1l) bh (by kernel_rfl) (fun cL aK a8 =>?_);clear bh
    refine goR aK [0,1,2] [1] 3 0 7 U (a8.to i1l) (.fa 6 rfl U39<|.lb hh 22 U37 rfl rfl rfl<|.move rfl .nil) fun Y U =>?_
    refine so 3 ?_
    refine ecl U Tryz.func69 rfl (oh _ h9 ((H.drop (k+1)).flatMap hsB++R) _ _ _ _ hh1 YH0 hh2 hhN (a8.into [(1,1),(2,2)] (by decide) rfl)) ?_
    rintro e cM ⟨cN,cO,bV,bW,rfl,aL⟩
    have bi:=a8.back aL [(1,1),(2,2),(100,9)] (by decide);clear aL a8
    have bj:=bi.oz [1,2,100,22,23,29]
    refine⟨_,rfl,?_⟩;intro Y U
    refine⟨bj.to i1l,?_⟩
    refine so 4 ?_
    refine lq U bj 101 (mm:=1) rfl (.cons rfl rfl (.cons (bj.rd (i:=100) rfl) .nil) .nil) U37 ue rfl rfl rfl rfl rfl fun cP Y cQ U bL =>?_
    refine⟨bL.to i1l,?_⟩
    have bM:=bL.freezeR 101 rfl
    refine so 5 ?_
    refine lC U bM 23 rfl rfl rfl (bM.rd (i:=101) rfl) U37 ue rfl rfl (by decide) (by simp;omega) rfl fun cR cS Y cT U bk =>?_
    refine⟨bk.to i1l,?_⟩
    refine goA aK [6] 1 63 127 U (bk.to i1l) (.fa 6 rfl U39 .nil) fun Y U =>?_
    refine se 7 ?_
    refine st1 U bk 22 x8 fun cU bN _ =>?_
    refine wad ?_
    refine hK6 _ _ ?_
    replace U:=U.oz [0,2,5,25,26]
    refine wp_region_lit ?_
    refine k9 U (.inc (k+1)<|.move rfl .nil) fun Y U =>?_
    refine wpList_nil ?_
    show ∃ n',n'<_∧_
    have hE:((H.take k).map hD)++[[D.l 2 (h9.map itD)]]=((H.take (k+1)).map hD):=by rw[ln hes,List.map_append];rfl
    rw[hE] at bN
    exact⟨H.length - (k+1),by omega,k+1,_,_,_,_,_,_,by omega,rfl,U.only [0,2,5,25,26],bN.ren [(1,1),(2,2),(22,22),(23,23),(29,29)] (by decide)⟩
   intro ab U;try simp only [QQ,Qax] at ab
   revert U
   obtain rfl:k=H.length:=by have:=ab;first|omega|(simp at this;omega)
   intro U
   have hd0:(H.drop H.length).flatMap hsB++R=R:=by simp
   rw[hd0,List.take_length] at aJ
   refine wcf U ?_
   refine wp_exit ?_
   refine hK4 _ _ ?_
   refine wsk fun K7 hK7 =>?_
   refine zsr fun K8 hK8 =>?_
   refine k9 U (.move rfl .nil) fun Y U =>?_
   refine plz (ecl U Tryz.func61 rfl (ri _ _ _ _ _ _ _ (aJ.into [(1,1),(2,2)] (by decide) rfl)) ?_)
   rintro e cV ⟨rfl,aM⟩
   have bm:=aJ.back aM [(1,1),(2,2)] (by decide);clear aM aJ
   have bO:=bm.oz [1,2,22,23,29]
   refine⟨_,rfl,?_⟩;intro Y U
   refine k9 U (.neq rfl rfl<|.move rfl .nil) fun Y U =>?_
   refine bcF U 39 fun U =>?_
   refine k9 U (.loadBRZ bO (i:=22) rfl rfl U39 rfl lH (by simp) (by dsimp only [List.drop,List.take] <;> rfl) .nil) fun Y U =>?_
   have bn:=bO.freezeR 23 rfl
   refine stz U (ecl U Tryz.func23 rfl (nS _ vo ch cn sz mk fl H _ _ _ _ (by omega) hok (bn.into [(1,23)] (by decide) rfl)) ?_)
   rintro e cW ⟨bc9,rfl,hbc,aN⟩
   have bo:=bn.back aN [(23,1)] (by decide);clear aN bn
   have bP:=bo.oz [23,1,2,22,29]
   refine⟨_,rfl,?_⟩;intro Y U
   refine gz hK8 U (.notZ rfl<|.pickF rfl rfl<|.nil) fun Y U =>?_
   refine bc U 43 ?_ ?_
   · intro hb _;exact absurd hb (by rw[hbc.2 hC];simp)
   clear U;intro _ U
   refine wcf U ?_
   refine zss (hK7 _ _ ?_)
   replace U:=U.oz [0,2,5,25,26,39]
   refine zsr fun K9 hK9 =>?_
   refine k9 U (.loadBR bP (i:=22) rfl rfl U39 rfl lH (by simp) (by dsimp only [List.drop,List.take] <;> rfl) .nil) fun Y U =>?_
   refine plz (stw U bP 29 lH fun cX bp _ =>?_)
   refine gz hK9 U (.assign rfl .nil) fun Y U =>?_
   refine rtd (lL (fn:=Tryz.f28) U bp (i:=29) rfl rfl rfl rfl U39 rfl lH ?_)
   rw[List.length_map] at bp
   rw[List.length_map]
   exact⟨_,_,_,_,rfl,bp.ren [(1,1),(2,2),(9,23)] (by decide)⟩
  refine lc U aH 42 oV rfl fun cY Y cZ U a9 _ _ =>?_
  refine⟨fun _=>(a9.to i1l),?_⟩
  refine so 11 ?_
  refine ecl U Tryz.func58 rfl (mU hN6 _ _ _ _ _ Y5.1 Y5.2 (a9.into [(1,1),(2,2)] (by decide) rfl)) ?_
  rintro e c0 ⟨c1,c2,rfl,aO⟩
  have bq:=a9.back aO [(1,1),(2,2)] (by decide);clear aO a9
  have br:=bq.oz [1,2,40,41,42]
  refine⟨_,rfl,?_⟩;intro Y U
  refine⟨br.to i1l,?_⟩
  refine goA ae [12] 1 12287 16383 U (br.to i1l) (.build rfl oV sc rfl (by dsimp only [l9,List.set] <;> rfl) .nil) fun Y U =>?_
  refine se 14 ?_
  refine stw U br 42 lH fun c3 bs _ =>?_
  refine wad ?_
  refine hK3 _ _ ?_
  refine wsk fun c4 bt =>?_
  replace U:=U.oz [0,2,3,5]
  refine la U (.fa 2 rfl U39<|.lb bs 42 U3 rfl rfl rfl<|.move rfl .nil) fun Y U =>?_
  refine wp_block ?_
  refine wp_loop_ghost (fun g a w => ∃ (k:Nat) (gZ gC:Nat) (pr p9:Option Addr) (cr c9:Nat),k≤H.length∧g=H.length - k∧Has 46 [(0,.pointer (some ⟨B,0,none⟩)),(2,.pointer (some ⟨gZ,0,none⟩)),(5,.pointer (some ⟨gC,0,none⟩)),(25,.int .i64 cn),(26,.int .i64 (k:Nat))] a∧MemOk X w0 [(1,.box B 115 [.slice pr (((H.drop k).flatMap hsB++R)).length cr,.int .i64 0]),(2,.dat (.slice pr (((H.drop k).flatMap hsB++R)).length cr) (.ns .u8 (((H.drop k).flatMap hsB++R)))),(22,.box gC 39 [.int .i64 vo,.int .i64 ch,.int .i64 cn,.int .i64 sz,.int .i64 mk,.int .i64 fl,.slice p9 ((H.take k).map hD).length c9]),(23,.row (.slice p9 ((H.take k).map hD).length c9) 94 1 ((H.take k).map hD)),(29,.box gZ 39 [.int .i64 0,.int .i64 0,.int .i64 0,.int .i64 0,.int .i64 0,.int .i64 0,.slice none 0 0])] w) (H.length) ?_ ?_
  · have mz:=bs.nilR 23 94 1
    have hE3:H.flatMap hsB++R=((H.drop 0).flatMap hsB++R):=by simp
    rw[hE3] at mz
    exact⟨0,_,_,_,_,_,_,Nat.zero_le _,rfl,U.only [0,2,5,25,26],mz.ren [(1,1),(2,2),(22,42),(23,23),(29,40)] (by decide)⟩
  clear U bs
  rintro g Y c5 ⟨k,gZ,gC,pr,p9,cr,c9,hkl,hg,U,aP⟩
  refine la U (.lss rfl rfl .nil) fun Y U =>?_
  refine wsk fun c6 bu =>?_
  refine bc U 27 ?_ ?_
  ·
   intro ac U;try simp only [QQ,Qax] at ac
   have hk:k<H.length:=by have:=ac;first|omega|(simp at this;omega)
   obtain⟨h9,hes⟩:∃ e,H[k]? = some e:=⟨_,List.getElem?_eq_getElem hk⟩
   have hh2:=hvs _ (List.mem_of_getElem? hes)
   have hh1:h9.length≤1000000:=(hok _ (List.mem_of_getElem? hes)).1
   have YH0:=pE hY k
   have hhN:=pF (R:=R) hes hh1
   refine wct U ?_
   refine zss (bu _ _ ?_)
   refine wsk fun c7 bv =>?_
   refine wp_block ?_
   have bw:=aP.oz [1,2,22,23,29]
   refine region_p 7 (B:=[(22,_)]) (bw.to i1l) bw (by kernel_rfl) (fun c8 aQ ba =>?_);clear bw
   refine goR aQ [0,1,2] [1] 3 0 7 U (ba.to i1l) (.fa 6 rfl U39<|.lb hh 22 U37 rfl rfl rfl<|.move rfl .nil) fun Y U =>?_
   refine so 3 ?_
   refine ecl U Tryz.func69 rfl (oh _ h9 ((H.drop (k+1)).flatMap hsB++R) _ _ _ _ hh1 YH0 hh2 hhN (ba.into [(1,1),(2,2)] (by decide) rfl)) ?_
   rintro e da ⟨db,dc,bX,bY,rfl,aR⟩
   have bx:=ba.back aR [(1,1),(2,2),(100,9)] (by decide);clear aR ba
   have bz:=bx.oz [1,2,100,22,23,29]
   refine⟨_,rfl,?_⟩;intro Y U
   refine⟨bz.to i1l,?_⟩
   refine so 4 ?_
   refine lq U bz 101 (mm:=1) rfl (.cons rfl rfl (.cons (bz.rd (i:=100) rfl) .nil) .nil) U37 ue rfl rfl rfl rfl rfl fun de Y df U bQ =>?_
   refine⟨bQ.to i1l,?_⟩
   have aS:=bQ.freezeR 101 rfl
   refine so 5 ?_
   refine lC U aS 23 rfl rfl rfl (aS.rd (i:=101) rfl) U37 ue rfl rfl (by decide) (by simp;omega) rfl fun dg dh Y bZ U av =>?_
   refine⟨av.to i1l,?_⟩
   refine goA aQ [6] 1 63 127 U (av.to i1l) (.fa 6 rfl U39 .nil) fun Y U =>?_
   refine se 7 ?_
   refine st1 U av 22 x8 fun b0 aT _ =>?_
   refine wad ?_
   refine bv _ _ ?_
   replace U:=U.oz [0,2,5,25,26]
   refine wp_region_lit ?_
   refine k9 U (.inc (k+1)<|.move rfl .nil) fun Y U =>?_
   refine wpList_nil ?_
   show ∃ n',n'<_∧_
   have hE:((H.take k).map hD)++[[D.l 2 (h9.map itD)]]=((H.take (k+1)).map hD):=by rw[ln hes,List.map_append];rfl
   rw[hE] at aT
   exact⟨H.length - (k+1),by omega,k+1,_,_,_,_,_,_,by omega,rfl,U.only [0,2,5,25,26],aT.ren [(1,1),(2,2),(22,22),(23,23),(29,29)] (by decide)⟩
  intro ac U;try simp only [QQ,Qax] at ac
  revert U
  obtain rfl:k=H.length:=by have:=ac;first|omega|(simp at this;omega)
  intro U
  have hd0:(H.drop H.length).flatMap hsB++R=R:=by simp
  rw[hd0,List.take_length] at aP
  refine wcf U ?_
  refine wp_exit ?_
  refine bt _ _ ?_
  refine wsk fun di bA =>?_
  refine zsr fun dj bB =>?_
  refine k9 U (.move rfl .nil) fun Y U =>?_
  refine plz (ecl U Tryz.func61 rfl (ri _ _ _ _ _ _ _ (aP.into [(1,1),(2,2)] (by decide) rfl)) ?_)
  rintro e b1 ⟨rfl,aj⟩
  have aU:=aP.back aj [(1,1),(2,2)] (by decide);clear aj aP
  have aV:=aU.oz [1,2,22,23,29]
  refine⟨_,rfl,?_⟩;intro Y U
  refine k9 U (.neq rfl rfl<|.move rfl .nil) fun Y U =>?_
  refine bcF U 39 fun U =>?_
  refine k9 U (.loadBRZ aV (i:=22) rfl rfl U39 rfl lH (by simp) (by dsimp only [List.drop,List.take] <;> rfl) .nil) fun Y U =>?_
  have aw:=aV.freezeR 23 rfl
  refine stz U (ecl U Tryz.func23 rfl (nS _ vo ch cn sz mk fl H _ _ _ _ (by omega) hok (aw.into [(1,23)] (by decide) rfl)) ?_)
  rintro e b4 ⟨bc9,rfl,hbc,ak⟩
  have aW:=aw.back ak [(23,1)] (by decide);clear ak aw
  have aX:=aW.oz [23,1,2,22,29]
  refine⟨_,rfl,?_⟩;intro Y U
  refine gz bB U (.notZ rfl<|.pickF rfl rfl<|.nil) fun Y U =>?_
  refine bc U 43 ?_ ?_
  · intro hb _;exact absurd hb (by rw[hbc.2 hC];simp)
  clear U;intro _ U
  refine wcf U ?_
  refine zss (bA _ _ ?_)
  replace U:=U.oz [0,2,5,25,26,39]
  refine zsr fun dk bC =>?_
  refine k9 U (.loadBR aX (i:=22) rfl rfl U39 rfl lH (by simp) (by dsimp only [List.drop,List.take] <;> rfl) .nil) fun Y U =>?_
  refine plz (stw U aX 29 lH fun b5 ax _ =>?_)
  refine gz bC U (.assign rfl .nil) fun Y U =>?_
  refine rtd (lL (fn:=Tryz.f28) U ax (i:=29) rfl rfl rfl rfl U39 rfl lH ?_)
  rw[List.length_map] at ax
  rw[List.length_map]
  exact⟨_,_,_,_,rfl,ax.ren [(1,1),(2,2),(9,23)] (by decide)⟩
 refine lc U aF 42 oV rfl fun b6 Y b7 U ag _ _ =>?_
 refine⟨fun _=>(ag.to i1l),?_⟩
 refine so 9 ?_
 refine ecl U Tryz.func58 rfl (mU hN5 _ _ _ _ _ Y4.1 Y4.2 (ag.into [(1,1),(2,2)] (by decide) rfl)) ?_
 rintro e b8 ⟨b9,ca,rfl,al⟩
 have aY:=ag.back al [(1,1),(2,2)] (by decide);clear al ag
 have ah:=aY.oz [1,2,40,41,42]
 refine⟨_,rfl,?_⟩;intro Y U
 refine⟨ah.to i1l,?_⟩
 refine so 11 ?_
 refine ecl U Tryz.func58 rfl (mU hN6 _ _ _ _ _ Y5.1 Y5.2 (ah.into [(1,1),(2,2)] (by decide) rfl)) ?_
 rintro e cb ⟨cc,cd,rfl,ao⟩
 have aZ:=ah.back ao [(1,1),(2,2)] (by decide);clear ao ah
 have ay:=aZ.oz [1,2,40,41,42]
 refine⟨_,rfl,?_⟩;intro Y U
 refine⟨ay.to i1l,?_⟩
 refine goA ae [12] 1 12287 16383 U (ay.to i1l) (.build rfl oV sc rfl (by dsimp only [l9,List.set] <;> rfl) .nil) fun Y U =>?_
 refine se 14 ?_
 refine stw U ay 42 lH fun ce az _ =>?_
 refine wad ?_
 refine hK3 _ _ ?_
 refine wsk fun dl bE =>?_
 replace U:=U.oz [0,2,3,5]
 refine la U (.fa 2 rfl U39<|.lb az 42 U3 rfl rfl rfl<|.move rfl .nil) fun Y U =>?_
 refine wp_block ?_
 refine wp_loop_ghost (fun g a w => ∃ (k:Nat) (gZ gC:Nat) (pr p9:Option Addr) (cr c9:Nat),k≤H.length∧g=H.length - k∧Has 46 [(0,.pointer (some ⟨B,0,none⟩)),(2,.pointer (some ⟨gZ,0,none⟩)),(5,.pointer (some ⟨gC,0,none⟩)),(25,.int .i64 cn),(26,.int .i64 (k:Nat))] a∧MemOk X w0 [(1,.box B 115 [.slice pr (((H.drop k).flatMap hsB++R)).length cr,.int .i64 0]),(2,.dat (.slice pr (((H.drop k).flatMap hsB++R)).length cr) (.ns .u8 (((H.drop k).flatMap hsB++R)))),(22,.box gC 39 [.int .i64 vo,.int .i64 ch,.int .i64 cn,.int .i64 sz,.int .i64 mk,.int .i64 fl,.slice p9 ((H.take k).map hD).length c9]),(23,.row (.slice p9 ((H.take k).map hD).length c9) 94 1 ((H.take k).map hD)),(29,.box gZ 39 [.int .i64 0,.int .i64 0,.int .i64 0,.int .i64 0,.int .i64 0,.int .i64 0,.slice none 0 0])] w) (H.length) ?_ ?_
 · have mz:=az.nilR 23 94 1
   have hE3:H.flatMap hsB++R=((H.drop 0).flatMap hsB++R):=by simp
   rw[hE3] at mz
   exact⟨0,_,_,_,_,_,_,Nat.zero_le _,rfl,U.only [0,2,5,25,26],mz.ren [(1,1),(2,2),(22,42),(23,23),(29,40)] (by decide)⟩
 clear U az
 rintro g Y cf ⟨k,gZ,gC,pr,p9,cr,c9,hkl,hg,U,ad⟩
 refine la U (.lss rfl rfl .nil) fun Y U =>?_
 refine wsk fun dm bF =>?_
 refine bc U 27 ?_ ?_
 ·
  intro aa U;try simp only [QQ,Qax] at aa
  have hk:k<H.length:=by have:=aa;first|omega|(simp at this;omega)
  obtain⟨h9,hes⟩:∃ e,H[k]? = some e:=⟨_,List.getElem?_eq_getElem hk⟩
  have hh2:=hvs _ (List.mem_of_getElem? hes)
  have hh1:h9.length≤1000000:=(hok _ (List.mem_of_getElem? hes)).1
  have YH0:=pE hY k
  have hhN:=pF (R:=R) hes hh1
  refine wct U ?_
  refine zss (bF _ _ ?_)
  refine wsk fun dn bG =>?_
  refine wp_block ?_
  have aA:=ad.oz [1,2,22,23,29]
  refine region_p 7 (B:=[(22,_)]) (aA.to i1l) aA (by kernel_rfl) (fun cg ap ai =>?_);clear aA
  refine goR ap [0,1,2] [1] 3 0 7 U (ai.to i1l) (.fa 6 rfl U39<|.lb hh 22 U37 rfl rfl rfl<|.move rfl .nil) fun Y U =>?_
  refine so 3 ?_
  refine ecl U Tryz.func69 rfl (oh _ h9 ((H.drop (k+1)).flatMap hsB++R) _ _ _ _ hh1 YH0 hh2 hhN (ai.into [(1,1),(2,2)] (by decide) rfl)) ?_
  rintro e ci ⟨cj,ck,bR,bS,rfl,aq⟩
  have a0:=ai.back aq [(1,1),(2,2),(100,9)] (by decide);clear aq ai
  have aB:=a0.oz [1,2,100,22,23,29]
  refine⟨_,rfl,?_⟩;intro Y U
  refine⟨aB.to i1l,?_⟩
  refine so 4 ?_
  refine lq U aB 101 (mm:=1) rfl (.cons rfl rfl (.cons (aB.rd (i:=100) rfl) .nil) .nil) U37 ue rfl rfl rfl rfl rfl fun cl Y cm U a1 =>?_
  refine⟨a1.to i1l,?_⟩
  have a2:=a1.freezeR 101 rfl
  refine so 5 ?_
  refine lC U a2 23 rfl rfl rfl (a2.rd (i:=101) rfl) U37 ue rfl rfl (by decide) (by simp;omega) rfl fun co cp Y cq U aC =>?_
  refine⟨aC.to i1l,?_⟩
  refine goA ap [6] 1 63 127 U (aC.to i1l) (.fa 6 rfl U39 .nil) fun Y U =>?_
  refine se 7 ?_
  refine st1 U aC 22 x8 fun cs a3 _ =>?_
  refine wad ?_
  refine bG _ _ ?_
  replace U:=U.oz [0,2,5,25,26]
  refine wp_region_lit ?_
  refine k9 U (.inc (k+1)<|.move rfl .nil) fun Y U =>?_
  refine wpList_nil ?_
  show ∃ n',n'<_∧_
  have hE:((H.take k).map hD)++[[D.l 2 (h9.map itD)]]=((H.take (k+1)).map hD):=by rw[ln hes,List.map_append];rfl
  rw[hE] at a3
  exact⟨H.length - (k+1),by omega,k+1,_,_,_,_,_,_,by omega,rfl,U.only [0,2,5,25,26],a3.ren [(1,1),(2,2),(22,22),(23,23),(29,29)] (by decide)⟩
 intro aa U;try simp only [QQ,Qax] at aa
 revert U
 obtain rfl:k=H.length:=by have:=aa;first|omega|(simp at this;omega)
 intro U
 have hd0:(H.drop H.length).flatMap hsB++R=R:=by simp
 rw[hd0,List.take_length] at ad
 refine wcf U ?_
 refine wp_exit ?_
 refine bE _ _ ?_
 refine wsk fun dp bH =>?_
 refine zsr fun dq bI =>?_
 refine k9 U (.move rfl .nil) fun Y U =>?_
 refine plz (ecl U Tryz.func61 rfl (ri _ _ _ _ _ _ _ (ad.into [(1,1),(2,2)] (by decide) rfl)) ?_)
 rintro e ct ⟨rfl,ar⟩
 have a4:=ad.back ar [(1,1),(2,2)] (by decide);clear ar ad
 have a5:=a4.oz [1,2,22,23,29]
 refine⟨_,rfl,?_⟩;intro Y U
 refine k9 U (.neq rfl rfl<|.move rfl .nil) fun Y U =>?_
 refine bcF U 39 fun U =>?_
 refine k9 U (.loadBRZ a5 (i:=22) rfl rfl U39 rfl lH (by simp) (by dsimp only [List.drop,List.take] <;> rfl) .nil) fun Y U =>?_
 have aD:=a5.freezeR 23 rfl
 refine stz U (ecl U Tryz.func23 rfl (nS _ vo ch cn sz mk fl H _ _ _ _ (by omega) hok (aD.into [(1,23)] (by decide) rfl)) ?_)
 rintro e cu ⟨bc9,rfl,hbc,au⟩
 have a6:=aD.back au [(23,1)] (by decide);clear au aD
 have a7:=a6.oz [23,1,2,22,29]
 refine⟨_,rfl,?_⟩;intro Y U
 refine gz bI U (.notZ rfl<|.pickF rfl rfl<|.nil) fun Y U =>?_
 refine bc U 43 ?_ ?_
 · intro hb _;exact absurd hb (by rw[hbc.2 hC];simp)
 clear U;intro _ U
 refine wcf U ?_
 refine zss (bH _ _ ?_)
 replace U:=U.oz [0,2,5,25,26,39]
 refine zsr fun dr bJ =>?_
 refine k9 U (.loadBR a7 (i:=22) rfl rfl U39 rfl lH (by simp) (by dsimp only [List.drop,List.take] <;> rfl) .nil) fun Y U =>?_
 refine plz (stw U a7 29 lH fun cv aE _ =>?_)
 refine gz bJ U (.assign rfl .nil) fun Y U =>?_
 refine rtd (lL (fn:=Tryz.f28) U aE (i:=29) rfl rfl rfl rfl U39 rfl lH ?_)
 rw[List.length_map] at aE
 rw[List.length_map]
 exact⟨_,_,_,_,rfl,aE.ren [(1,1),(2,2),(9,23)] (by decide)⟩
end
section
theorem wc(X:Cx)(xs:Int)(xd:List Int)(p1:Option Addr)(c1:Nat)(p2:Option Addr)(c2:Nat)(w0:World)(hxb:lg xd)(m0:MemOk X w0 [(1,.dat (.slice p1 xd.length c1) (.ns .u8 xd)),(2,.dat (.slice p2 xd.length c2) (.ns .u8 xd))] w0) :
   Calls Tryz.prog 81 #[.agg #[.int .i64 xs,.slice p1 xd.length c1],.agg #[.int .i64 xs,.slice p2 xd.length c2]] w0 fun e w'=>e=.returned (.bool true)∧MemOk X w0 [(1,.dat (.slice p1 xd.length c1) (.ns .u8 xd)),(2,.dat (.slice p2 xd.length c2) (.ns .u8 xd))] w':=by
 refine mR Tryz.func81 rfl Tryz.ntmps81 fun Y U =>?_
 refine zsr fun K0 hK0 =>?_
 refine plz (ly U m0 20 (cs:=[_,_]) rfl rfl rfl fun g1 Y w2 U m2 _ _ =>?_)
 refine plz (ly U m2 21 (cs:=[_,_]) rfl rfl rfl fun g3 Y w4 U m4 _ _ =>?_)
 refine gz hK0 U (.assign rfl .nil) fun Y U =>?_
 refine zsr fun K1 hK1 =>?_
 refine k9 U (.fa 0 rfl nf<|.lb m4 20 U2 rfl rfl rfl<|.fa 0 rfl nf<|.lb m4 21 U2 rfl rfl rfl<|.eql rfl rfl<|.move rfl .nil) fun Y U =>?_
 refine bcT U 10 fun U =>?_
 refine k9 U (.faZ 1 rfl nf<|.loadB1Z m4 (i:=20) rfl rfl rfl U22 rfl<|.faZ 1 rfl nf<|.loadB1Z m4 (i:=21) rfl rfl rfl U22 rfl .nil) fun Y U =>?_
 refine stz U (ecb U Tryz.func62 rfl m4 (zB _ _ xd xd _ (m4.rd (i:=1) rfl).any (m4.rd (i:=2) rfl).any hxb hxb) fun Y ab U aa =>?_)
 refine gz hK1 U (.pickT rfl rfl<|.assign rfl<|.nil) fun Y U =>?_
 refine rt1 U ?_
 exact⟨by simp,aa.only [1,2]⟩
theorem zC(X:Cx)(h:List Ver)(p1:Option Addr)(c1:Nat)(p2:Option Addr)(c2:Nat)(w0:World)(hl:h.length≤1000000)(hbs:∀ v∈h,lg v.2)(m0:MemOk X w0 [(1,.dat (.slice p1 h.length c1) (.l 2 (h.map itD))),(2,.dat (.slice p2 h.length c2) (.l 2 (h.map itD)))] w0) :
   Calls Tryz.prog 83 #[.slice p1 h.length c1,.slice p2 h.length c2,.func (.func 81) #[] #[]] w0 fun e w'=>e=.returned (.bool true)∧MemOk X w0 [(1,.dat (.slice p1 h.length c1) (.l 2 (h.map itD))),(2,.dat (.slice p2 h.length c2) (.l 2 (h.map itD)))] w':=by
 refine qr Tryz.func83 rfl Tryz.ntmps83 fun Y U =>?_
 refine la U (.assign rfl .nil) fun Y U =>?_
 refine wsk fun K0 hK0 =>?_
 refine la U (.move rfl<|.len rfl U94<|.move rfl<|.len rfl U94<|.neq rfl rfl .nil) fun Y U =>?_
 refine bcF U 14 fun U =>?_
 refine wcf U ?_
 refine zss (hK0 _ _ ?_)
 refine wsk fun K1 hK1 =>?_
 refine la U (.move rfl<|.len rfl U94<|.move rfl .nil) fun Y U =>?_
 refine wp_block ?_
 refine wp_loop_ghost (fun g a w => ∃ k:Nat,k≤h.length∧g=h.length - k∧Has 32 [(0,.slice p1 h.length c1),(1,.slice p2 h.length c2),(2,.func (.func 81) #[] #[]),(15,.slice p1 h.length c1),(16,.int .i64 h.length),(17,.int .i64 k)] a∧MemOk X w0 [(1,.dat (.slice p1 h.length c1) (.l 2 (h.map itD))),(2,.dat (.slice p2 h.length c2) (.l 2 (h.map itD)))] w) (h.length) ?_ ?_
 · exact⟨0,Nat.zero_le _,rfl,U.only [0,1,2,15,16,17],m0.only [1,2]⟩
 clear U m0
 rintro g Y aI ⟨k,hkl,hg,U,ai⟩
 refine la U (.lss rfl rfl .nil) fun Y U =>?_
 refine wsk fun K2 hK2 =>?_
 refine bc U 18 ?_ ?_
 ·
  intro ac U;try simp only [QQ,Qax] at ac
  have hk:k<h.length:=by have:=ac;first|omega|(simp at this;omega)
  obtain⟨⟨xs,xd⟩,hes⟩:∃ e,h[k]? = some e:=⟨_,List.getElem?_eq_getElem hk⟩
  have hxb:lg xd:=hbs _ (List.mem_of_getElem? hes)
  refine wct U ?_
  refine zss (hK2 _ _ ?_)
  refine wsk fun K3 hK3 =>?_
  refine wp_block ?_
  refine zsr fun K4 hK4 =>?_
  refine k9 U (.move rfl .nil) fun Y U =>?_
  obtain⟨aJ,aK,aB,aj,ak,al,aw⟩:=ai.openR (i:=1) rfl (k) (r:=[.v (.int .i64 xs),.ns .u8 xd]) (lm hes) 100 rfl
  revert U
  cases aj;clear ai al
  rcases ak with _|⟨ad,_|⟨aa,_|_⟩⟩
  obtain rfl:=ad.v_out
  clear ad
  obtain⟨aL,aM,ao,aC⟩:=aa.ns_shape;subst ao
  intro U
  have ax:=aw.dat 101 rfl (aa.cast (fun _ h=>(lf rfl h)));clear aw aa
  refine k9 U (.c rfl (fun _ h_=>li h_ rfl rfl U94 lN (k) rfl hk)<|.loadCR ax (i:=100) rfl rfl nf rfl lN .nil) fun Y U =>?_
  refine plz (lc U ax 102 oc rfl fun aN Y aO U aD _ _ =>?_)
  refine k9 U (.assign rfl .nil) fun Y U =>?_
  refine plz (stw U aD 102 lN fun aP ay _ =>?_)
  refine znl (hK4 _ _ ?_)
  refine zsr fun K5 hK5 =>?_
  refine k9 U (.move rfl<|.move rfl .nil) fun Y U =>?_
  obtain⟨aQ,aR,aE,ap,aq,ar,az⟩:=ay.openR (i:=2) rfl (k) (r:=[.v (.int .i64 xs),.ns .u8 xd]) (lm hes) 103 rfl
  revert U
  cases ap;clear ay ar
  rcases aq with _|⟨ae,_|⟨ab,_|_⟩⟩
  obtain rfl:=ae.v_out
  clear ae
  obtain⟨aS,aT,au,aF⟩:=ab.ns_shape;subst au
  intro U
  have aA:=az.dat 104 rfl (ab.cast (fun _ h=>(lf rfl h)));clear az ab
  refine k9 U (.c rfl (fun _ h_=>li h_ rfl rfl U94 lN (k) rfl hk)<|.loadCR aA (i:=103) rfl rfl nf rfl lN .nil) fun Y U =>?_
  refine plz (lc U aA 105 oc rfl fun aU Y aV U aG _ _ =>?_)
  refine plz (stw U aG 105 lN fun aW ag _ =>?_)
  refine znl (hK5 _ _ ?_)
  replace U:=U.oz [0,1,2,15,16,17,8,9]
  refine zsr fun K6 hK6 =>?_
  refine k9 U (.move rfl<|.loadBR ag (i:=102) rfl rfl nf rfl lN (by simp) (by dsimp only [List.drop,List.take] <;> rfl)<|.loadBR ag (i:=105) rfl rfl nf rfl lN (by simp) (by dsimp only [List.drop,List.take] <;> rfl) .nil) fun Y U =>?_
  refine plz (rE U rfl Tryz.func81 rfl rfl rfl rfl (wc _ xs xd _ _ _ _ _ hxb (ag.into [(1,101),(2,104)] (by decide) rfl)) ?_)
  rintro e aX ⟨rfl,ah⟩
  have av:=ag.back ah [(101,1),(104,2)] (by decide);clear ah ag
  have aH:=av.oz [101,104,1,2,100,102,103,105]
  refine⟨_,rfl,?_⟩;intro Y U
  refine gz hK6 U (.not rfl .nil) fun Y U =>?_
  refine wcf U ?_
  refine zss (hK3 _ _ ?_)
  replace U:=U.oz [0,1,2,15,16,17]
  refine wp_region_lit ?_
  refine k9 U (.inc (k+1)<|.move rfl .nil) fun Y U =>?_
  refine wpList_nil ?_
  show ∃ n',n'<_∧_
  exact⟨h.length - (k+1),by omega,k+1,by omega,rfl,U.only [0,1,2,15,16,17],aH.only [1,2]⟩
 intro ac U;try simp only [QQ,Qax] at ac
 revert U
 obtain rfl:k=h.length:=by have:=ac;first|omega|(simp at this;omega)
 intro U
 refine wcf U ?_
 refine wp_exit ?_
 refine hK1 _ _ ?_
 refine la U (.assign rfl .nil) fun Y U =>?_
 refine rt1 U ?_
 exact⟨rfl,ai.only [1,2]⟩
theorem wd(X:Cx)(h:List Ver)(p1:Option Addr)(c1:Nat)(p2:Option Addr)(c2:Nat)(w0:World)(gF n1 n2:Nat)(hl:h.length≤1000000)(hbs:∀ v∈h,lg v.2)(m0:MemOk X w0 [(1,.dat (.slice p1 n1 c1) (.l 2 (h.map itD))),(2,.dat (.slice p2 n2 c2) (.l 2 (h.map itD))),(3,.box gF 136 [.func (.func 81) #[] #[]])] w0) :
   Calls Tryz.prog 82 #[.slice p1 n1 c1,.slice p2 n2 c2,.pointer (some ⟨gF,0,none⟩)] w0 fun e w'=>e=.returned (.bool true)∧MemOk X w0 [(1,.dat (.slice p1 n1 c1) (.l 2 (h.map itD))),(2,.dat (.slice p2 n2 c2) (.l 2 (h.map itD))),(3,.box gF 136 [.func (.func 81) #[] #[]])] w':=by
 obtain rfl:n1=h.length:=nX (m0.rd (i:=1) rfl)
 obtain rfl:n2=h.length:=nX (m0.rd (i:=2) rfl)
 refine qr Tryz.func82 rfl Tryz.ntmps82 fun Y U =>?_
 refine la U (.assign rfl .nil) fun Y U =>?_
 refine zsr fun K0 hK0 =>?_
 refine k9 U (.move rfl<|.move rfl<|.lb m0 3 AV rfl rfl rfl .nil) fun Y U =>?_
 refine plz (ecl U Tryz.func83 rfl (zC _ h _ _ _ _ _ hl hbs (m0.into [(1,1),(2,2)] (by decide) rfl)) ?_)
 rintro e w8 ⟨rfl,hm8⟩
 have mx8:=m0.back hm8 [(1,1),(2,2)] (by decide);clear hm8 m0
 have m8:=mx8.oz [1,2,3]
 refine⟨_,rfl,?_⟩;intro Y U
 refine gz hK0 U (.assign rfl .nil) fun Y U =>?_
 refine rt1 U ?_
 exact⟨rfl,m8.only [1,2,3]⟩
theorem zD(X:Cx)(H:List (List Ver))(p1:Option Addr)(c1:Nat)(p2:Option Addr)(c2:Nat)(w0:World)(gF:Nat)(hl:H.length≤1000000)(hok:∀ h∈H,h.length≤1000000∧∀ v∈h,lg v.2)(m0:MemOk X w0 [(1,.dat (.slice p1 H.length c1) (.l 1 (H.map hD))),(2,.dat (.slice p2 H.length c2) (.l 1 (H.map hD))),(3,.box gF 136 [.func (.func 81) #[] #[]])] w0) :
   Calls Tryz.prog 84 #[.slice p1 H.length c1,.slice p2 H.length c2,.func (.func 82) #[] #[.pointer (some ⟨gF,0,none⟩)]] w0 fun e w'=>e=.returned (.bool true)∧MemOk X w0 [(1,.dat (.slice p1 H.length c1) (.l 1 (H.map hD))),(2,.dat (.slice p2 H.length c2) (.l 1 (H.map hD))),(3,.box gF 136 [.func (.func 81) #[] #[]])] w':=by
 refine qr Tryz.func84 rfl Tryz.ntmps84 fun Y U =>?_
 refine la U (.assign rfl .nil) fun Y U =>?_
 refine wsk fun K0 hK0 =>?_
 refine la U (.move rfl<|.len rfl U37<|.move rfl<|.len rfl U37<|.neq rfl rfl .nil) fun Y U =>?_
 refine bcF U 14 fun U =>?_
 refine wcf U ?_
 refine zss (hK0 _ _ ?_)
 refine wsk fun K1 hK1 =>?_
 refine la U (.move rfl<|.len rfl U37<|.move rfl .nil) fun Y U =>?_
 refine wp_block ?_
 refine wp_loop_ghost (fun g a w => ∃ k:Nat,k≤H.length∧g=H.length - k∧Has 32 [(0,.slice p1 H.length c1),(1,.slice p2 H.length c2),(2,.func (.func 82) #[] #[.pointer (some ⟨gF,0,none⟩)]),(15,.slice p1 H.length c1),(16,.int .i64 H.length),(17,.int .i64 k)] a∧MemOk X w0 [(1,.dat (.slice p1 H.length c1) (.l 1 (H.map hD))),(2,.dat (.slice p2 H.length c2) (.l 1 (H.map hD))),(3,.box gF 136 [.func (.func 81) #[] #[]])] w) (H.length) ?_ ?_
 · exact⟨0,Nat.zero_le _,rfl,U.only [0,1,2,15,16,17],m0.only [1,2,3]⟩
 clear U m0
 rintro g Y aC ⟨k,hkl,hg,U,ag⟩
 refine la U (.lss rfl rfl .nil) fun Y U =>?_
 refine wsk fun K2 hK2 =>?_
 refine bc U 18 ?_ ?_
 ·
  intro ac U;try simp only [QQ,Qax] at ac
  have hk:k<H.length:=by have:=ac;first|omega|(simp at this;omega)
  obtain⟨h9,hes⟩:∃ e,H[k]? = some e:=⟨_,List.getElem?_eq_getElem hk⟩
  have hh9:=hok _ (List.mem_of_getElem? hes)
  refine wct U ?_
  refine zss (hK2 _ _ ?_)
  refine wsk fun K3 hK3 =>?_
  refine wp_block ?_
  refine zsr fun K4 hK4 =>?_
  refine k9 U (.move rfl .nil) fun Y U =>?_
  obtain⟨aD,aE,ax,ah,ai,aj,av⟩:=ag.openR (i:=1) rfl (k) (r:=[.l 2 (h9.map itD)]) (mS hes) 100 rfl
  revert U
  cases ah;clear ag aj
  rcases ai with _|⟨aa,_|_⟩
  obtain⟨aF,aG,ak,ay⟩:=aa.l_shape;subst ak
  intro U
  have al:=av.dat 101 rfl (aa.cast (fun _ h=>(lf rfl h)));clear av aa
  refine gz hK4 U (.c rfl (fun _ h_=>li h_ rfl rfl U37 mJ (k) rfl hk)<|.loadC0 al (i:=100) rfl rfl U94 rfl<|.assign rfl<|.assign rfl<|.nil) fun Y U =>?_
  refine zsr fun K5 hK5 =>?_
  refine k9 U (.move rfl<|.move rfl .nil) fun Y U =>?_
  obtain⟨aH,aI,az,ao,ap,aq,aw⟩:=al.openR (i:=2) rfl (k) (r:=[.l 2 (h9.map itD)]) (mS hes) 102 rfl
  revert U
  cases ao;clear al aq
  rcases ap with _|⟨ab,_|_⟩
  obtain⟨aJ,aK,ar,aA⟩:=ab.l_shape;subst ar
  intro U
  have ae:=aw.dat 103 rfl (ab.cast (fun _ h=>(lf rfl h)));clear aw ab
  refine gz hK5 U (.c rfl (fun _ h_=>li h_ rfl rfl U37 mJ (k) rfl hk)<|.loadC0 ae (i:=102) rfl rfl U94 rfl<|.assign rfl<|.nil) fun Y U =>?_
  replace U:=U.oz [0,1,2,15,16,17,8,9]
  refine zsr fun K6 hK6 =>?_
  refine k9 U (.move rfl<|.move rfl<|.move rfl .nil) fun Y U =>?_
  refine plz (rF U rfl Tryz.func82 rfl rfl rfl rfl (wd _ h9 _ _ _ _ _ _ _ _ hh9.1 hh9.2 (ae.into [(1,101),(2,103),(3,3)] (by decide) rfl)) ?_)
  rintro e aL ⟨rfl,ad⟩
  have au:=ae.back ad [(101,1),(103,2),(3,3)] (by decide);clear ad ae
  have aB:=au.oz [101,103,3,1,2,100,102]
  refine⟨_,rfl,?_⟩;intro Y U
  refine gz hK6 U (.not rfl .nil) fun Y U =>?_
  refine wcf U ?_
  refine zss (hK3 _ _ ?_)
  replace U:=U.oz [0,1,2,15,16,17]
  refine wp_region_lit ?_
  refine k9 U (.inc (k+1)<|.move rfl .nil) fun Y U =>?_
  refine wpList_nil ?_
  show ∃ n',n'<_∧_
  exact⟨H.length - (k+1),by omega,k+1,by omega,rfl,U.only [0,1,2,15,16,17],aB.only [1,2,3]⟩
 intro ac U;try simp only [QQ,Qax] at ac
 revert U
 obtain rfl:k=H.length:=by have:=ac;first|omega|(simp at this;omega)
 intro U
 refine wcf U ?_
 refine wp_exit ?_
 refine hK1 _ _ ?_
 refine la U (.assign rfl .nil) fun Y U =>?_
 refine rt1 U ?_
 exact⟨rfl,ag.only [1,2,3]⟩
theorem yq(X:Cx)(vo ch cn sz mk fl:Int)(H:List (List Ver))(p1:Option Addr)(c1:Nat)(p2:Option Addr)(c2:Nat)(w0:World)(hl:H.length≤1000000)(hok:∀ h∈H,h.length≤1000000∧∀ v∈h,lg v.2)(m0:MemOk X w0 [(1,.dat (.slice p1 H.length c1) (.l 1 (H.map hD))),(2,.dat (.slice p2 H.length c2) (.l 1 (H.map hD)))] w0) :
   Calls Tryz.prog 35 #[.agg #[.int .i64 vo,.int .i64 ch,.int .i64 cn,.int .i64 sz,.int .i64 mk,.int .i64 fl,.slice p1 H.length c1],.agg #[.int .i64 vo,.int .i64 ch,.int .i64 cn,.int .i64 sz,.int .i64 mk,.int .i64 fl,.slice p2 H.length c2]] w0 fun e w'=>e=.returned (.bool true)∧MemOk X w0 [(1,.dat (.slice p1 H.length c1) (.l 1 (H.map hD))),(2,.dat (.slice p2 H.length c2) (.l 1 (H.map hD)))] w':=by
 refine mR Tryz.func35 rfl Tryz.ntmps35 fun Y U =>?_
 refine zsr fun K0 hK0 =>?_
 refine plz (ly U m0 30 (cs:=[_,_,_,_,_,_,_]) rfl rfl rfl fun g1 Y w2 U m2 _ _ =>?_)
 refine plz (ly U m2 31 (cs:=[_,_,_,_,_,_,_]) rfl rfl rfl fun g3 Y w4 U m4 _ _ =>?_)
 refine gz hK0 U (.assign rfl .nil) fun Y U =>?_
 refine zsr fun K1 hK1 =>?_
 refine plz (lc U m4 32 Ai rfl fun g6 Y w7 U m7 _ _ =>?_)
 refine plz (st1 U m7 32 Ah fun w8 m8 _ =>?_)
 refine znl (hK1 _ _ ?_)
 refine la U (.makeFunc rfl<|.assign rfl .nil) fun Y U =>?_
 refine wsk fun K2 hK2 =>?_
 have ad:=m8.oz [1,2,30,31,32]
 refine region_p 28 (B:=[(1,_),(2,_),(30,_),(31,_),(32,_)]) (ad.to i5l) ad (by kernel_rfl) (fun aj aa ah =>?_);clear ad
 refine goR aa [0,2] [0,2] 2 0 5 U (ah.to i5l) (.loadBR hh (i:=30) rfl rfl U39 rfl lH (by simp) (by dsimp only [List.drop,List.take] <;> rfl)<|.loadBR hh (i:=31) rfl rfl U39 rfl lH (by simp) (by dsimp only [List.drop,List.take] <;> rfl) .nil) fun Y U =>?_
 refine so 1 ?_
 refine ecb U Tryz.func52 rfl ah (nK _ _ _ _ _ _ _ _) fun Y ak U ai =>?_
 refine⟨ai.to i5l,?_⟩
 refine so 3 ?_
 refine ecb U Tryz.func52 rfl ai (nK _ _ _ _ _ _ _ _) fun Y al U ab =>?_
 refine⟨ab.to i5l,?_⟩
 refine goA aa [4,5] 2 15 63 U (ab.to i5l) (.p (fun _ _ h_=>zE h_ rfl rfl)<|.move rfl .nil) fun Y U =>?_
 refine bcT U 13 fun U =>?_
 refine goR aa [6,7,8,9,10,11,12] [7,9] 7 63 8191 U (ab.to i5l) (.fa 4 rfl U39<|.lb hh 30 U2 rfl rfl rfl<|.fa 4 rfl U39<|.lb hh 31 U2 rfl rfl rfl<|.eql rfl rfl<|.pickT rfl rfl<|.move rfl .nil) fun Y U =>?_
 refine bcT U 20 fun U =>?_
 refine goR aa [13,14,15,16,17,18,19] [14,16] 7 8191 1048575 U (ab.to i5l) (.fa 5 rfl U39<|.lb hh 30 U2 rfl rfl rfl<|.fa 5 rfl U39<|.lb hh 31 U2 rfl rfl rfl<|.eql rfl rfl<|.pickT rfl rfl<|.move rfl .nil) fun Y U =>?_
 refine bcT U 27 fun U =>?_
 refine goR aa [20,21,22,23,24] [21,23] 5 1048575 33554431 U (ab.to i5l) (.fa 6 rfl U39<|.lb hh 30 U37 rfl rfl rfl<|.fa 6 rfl U39<|.lb hh 31 U37 rfl rfl rfl<|.move rfl .nil) fun Y U =>?_
 refine lh 25 rfl (by kernel_rfl) (lA U rfl rfl rfl rfl) (fun K hK =>?_)
 refine lG U Tryz.func84 rfl rfl rfl rfl (zD _ H _ _ _ _ _ _ hl hok (ab.into [(1,1),(2,2),(3,32)] (by decide) rfl)) ?_
 rintro e ao ⟨rfl,ac⟩
 have ae:=ab.back ac [(1,1),(2,2),(32,3)] (by decide);clear ac ab
 have ag:=ae.oz [1,2,32,30,31]
 refine⟨_,rfl,?_⟩;intro Y U
 refine hK _ _ (ag.to i5l) ?_;clear hK K
 refine goA aa [26,27] 2 67108863 268435455 U (ag.to i5l) (.pickT rfl rfl<|.assign rfl .nil) fun Y U =>?_
 refine wad ?_
 refine hK2 _ _ ?_
 refine rt1 U ?_
 exact⟨by simp,ag.only [1,2]⟩
end
end Go.Proofs.YteglmahnkfgelaaGreat.K
