/- General laws of walks. -/
import Derived.Test.YteglmahnkfgelaaGreatG20
namespace Go.Proofs.YteglmahnkfgelaaGreat.K
open Go.ChangeShapes Go.WideShapes Go.ChangeAt Go.RowKit
set_option linter.unusedVariables false
set_option linter.unusedSimpArgs false
set_option maxRecDepth 100000
set_option maxHeartbeats 4000000
set_option autoImplicit true
set_option relaxedAutoImplicit true
section
theorem yx:lR Tryz.prog 88 [.int .i64 0,.int .i64 0,.int .i64 0,.int .i64 0]=true:=by kernel_rfl
def hsB(h:List Ver):List Int:=ll [(h.length:Int)]++h.flatMap itB
def oB(vo ch cn sz mk fl:Int)(H:List (List Ver)):List Int:=(ll [vo,ch,cn,sz]++ll [mk,fl])++H.flatMap hsB
theorem oC{α:Type}{f:α→List Int}{l:List α}(k:Nat):((l.take k).flatMap f).length≤(l.flatMap f).length:=by
 have h:=List.take_append_drop k l
 have h2:l.flatMap f=(l.take k).flatMap f++(l.drop k).flatMap f:=by rw[← List.flatMap_append,h]
 rw[h2,List.length_append];omega
theorem uF{α:Type}{f:α→List Int}{l:List α}{k:Nat}{x:α}(hx:l[k]? = some x):(f x).length≤(l.flatMap f).length:=by
 have hk:=(List.getElem?_eq_some_iff.1 hx).1
 have h1:=oC (f:=f) (l:=l) (k+1)
 rw[ln hx,List.flatMap_append,List.length_append,List.flatMap_cons,List.flatMap_nil,List.append_nil] at h1
 omega
theorem mU{b y:List Int}{a er2:Int}(hN:lQ b 0 1099511627776=(a,y,er2))(X:Cx)(B:Nat)(p:Option Addr)(c:Nat)(w0:World)(hb:b.length≤1000000)(hbb:lg b)(m0:MemOk X w0 [(1,.box B 115 [.slice p (b).length c,.int .i64 0]),(2,.dat (.slice p (b).length c) (.ns .u8 (b)))] w0) :
   Calls Tryz.prog 58 #[.pointer (some ⟨B,0,none⟩)] w0 fun e w' => ∃ (p':Option Addr) (c':Nat),e=.returned (.int .i64 a)∧MemOk X w0 [(1,.box B 115 [.slice p' (y).length c',.int .i64 er2]),(2,.dat (.slice p' (y).length c') (.ns .u8 (y)))] w':=by
 refine mp Tryz.func58 rfl Tryz.ntmps58 fun Y U =>?_
 have ha9:=(nr hN hbb hb (by omega)).1
 refine la U (.assign rfl .nil) fun Y U =>?_
 refine zsr fun K0 hK0 =>?_
 refine k9 U (.move rfl .nil) fun Y U =>?_
 refine plz (ecl U Tryz.func59 rfl (nY (hN:=hN) _ _ _ _ _ hb hbb (m0.into [(1,1),(2,2)] (by decide) rfl)) ?_)
 rintro e w4 ⟨p4,c4,rfl,hm4⟩
 have mx4:=m0.back hm4 [(1,1),(2,2)] (by decide);clear hm4 m0
 have m4:=mx4.oz [1,2]
 refine⟨_,rfl,?_⟩;intro Y U
 refine gz hK0 U (.conv rfl nb U2 (IntWalk.i64_in _ (by omega))<|.assign rfl<|.nil) fun Y U =>?_
 refine rt1 U ?_
 exact⟨_,_,rfl,m4.only [1,2]⟩
theorem oW{b y1 y2 y3 y4:List Int}{a1 a2 a3 a4 e1 e2 e3 e4:Int}(h1:lQ b 0 7=(a1,y1,e1))(h2:lQ y1 e1 255=(a2,y2,e2))(h3:lQ y2 e2 256=(a3,y3,e3))(h4:lQ y3 e3 32=(a4,y4,e4))(X:Cx)(B:Nat)(p:Option Addr)(c:Nat)(w0:World)(hb:b.length≤1000000)(hbb:lg b)(m0:MemOk X w0 [(1,.box B 115 [.slice p (b).length c,.int .i64 0]),(2,.dat (.slice p (b).length c) (.ns .u8 (b)))] w0) :
   Calls Tryz.prog 57 #[.pointer (some ⟨B,0,none⟩)] w0 fun e w' => ∃ (p':Option Addr) (c':Nat),e=.returned (.agg #[.int .i64 a1,.int .i64 a2,.int .i64 a3,.int .i64 a4])∧MemOk X w0 [(1,.box B 115 [.slice p' (y4).length c',.int .i64 e4]),(2,.dat (.slice p' (y4).length c') (.ns .u8 (y4)))] w':=by
 refine mp Tryz.func57 rfl Tryz.ntmps57 fun Y U =>?_
 have ha1:=nr h1 hbb hb (by omega)
 have ha2:=nr h2 ha1.2.2.2.1 ha1.2.2.1 (by omega)
 have ha3:=nr h3 ha2.2.2.2.1 ha2.2.2.1 (by omega)
 have ha4:=nr h4 ha3.2.2.2.1 ha3.2.2.1 (by omega)
 refine zsr fun K0 hK0 =>?_
 refine plz (lc U m0 20 xg rfl fun g1 Y w2 U m2 _ _ =>?_)
 refine znl (hK0 _ _ ?_)
 refine zsr fun K1 hK1 =>?_
 refine k9 U (.move rfl .nil) fun Y U =>?_
 refine plz (ecl U Tryz.func59 rfl (nY (hN:=h1) _ _ _ _ _ hb hbb (m2.into [(1,1),(2,2)] (by decide) rfl)) ?_)
 rintro e w5 ⟨p5,c5,rfl,hm5⟩
 have mx5:=m2.back hm5 [(1,1),(2,2)] (by decide);clear hm5 m2
 have m5:=mx5.oz [1,2,20]
 refine⟨_,rfl,?_⟩;intro Y U
 refine k9 U (.conv rfl nb U3 (IntWalk.i64_in _ (by omega))<|.move rfl .nil) fun Y U =>?_
 refine plz (ecl U Tryz.func59 rfl (nY (hN:=h2) _ _ _ _ _ ha1.2.2.1 ha1.2.2.2.1 (m5.into [(1,1),(2,2)] (by decide) rfl)) ?_)
 rintro e w9 ⟨p9,c9,rfl,hm9⟩
 have mx9:=m5.back hm9 [(1,1),(2,2)] (by decide);clear hm9 m5
 have m9:=mx9.oz [1,2,20]
 refine⟨_,rfl,?_⟩;intro Y U
 refine k9 U (.conv rfl nb U3 (IntWalk.i64_in _ (by omega))<|.move rfl .nil) fun Y U =>?_
 refine plz (ecl U Tryz.func59 rfl (nY (hN:=h3) _ _ _ _ _ ha2.2.2.1 ha2.2.2.2.1 (m9.into [(1,1),(2,2)] (by decide) rfl)) ?_)
 rintro e ai ⟨aj,ak,rfl,aa⟩
 have ac:=m9.back aa [(1,1),(2,2)] (by decide);clear aa m9
 have ad:=ac.oz [1,2,20]
 refine⟨_,rfl,?_⟩;intro Y U
 refine k9 U (.conv rfl nb U3 (IntWalk.i64_in _ (by omega))<|.move rfl .nil) fun Y U =>?_
 refine plz (ecl U Tryz.func59 rfl (nY (hN:=h4) _ _ _ _ _ ha3.2.2.1 ha3.2.2.2.1 (ad.into [(1,1),(2,2)] (by decide) rfl)) ?_)
 rintro e al ⟨ao,ap,rfl,ab⟩
 have ae:=ad.back ab [(1,1),(2,2)] (by decide);clear ab ad
 have ah:=ae.oz [1,2,20]
 refine⟨_,rfl,?_⟩;intro Y U
 refine k9 U (.conv rfl nb U3 (IntWalk.i64_in _ (by omega))<|.build rfl xg yx rfl (by dsimp only [l9,List.set] <;> rfl) .nil) fun Y U =>?_
 refine plz (stw U ah 20 xf fun aq ag _ =>?_)
 refine znl (hK1 _ _ ?_)
 refine rtd (mK (fn:=Tryz.f57) U ag (i:=20) rfl rfl rfl U88 rfl xf ?_)
 exact⟨_,_,rfl,ag.only [1,2]⟩
theorem sU{b d y:List Int}(hN:lQ b 0 32=((d.length:Int),d++y,0))(X:Cx)(B:Nat)(p:Option Addr)(c:Nat)(w0:World)(hb:b.length≤1000000)(hbb:lg b)(m0:MemOk X w0 [(1,.box B 115 [.slice p (b).length c,.int .i64 0]),(2,.dat (.slice p (b).length c) (.ns .u8 (b)))] w0) :
   Calls Tryz.prog 60 #[.pointer (some ⟨B,0,none⟩),.int .i64 32] w0 fun e w' => ∃ (p':Option Addr) (c':Nat) (pd:Option Addr) (cd:Nat),e=.returned (.slice pd d.length cd)∧MemOk X w0 [(1,.box B 115 [.slice p' (y).length c',.int .i64 0]),(2,.dat (.slice p' (y).length c') (.ns .u8 (y))),(3,.dat (.slice pd d.length cd) (.ns .u8 d))] w':=by
 refine mR Tryz.func60 rfl Tryz.ntmps60 fun Y U =>?_
 have ha9:=nr hN hbb hb (by omega)
 have hy1:(d++y).length≤1000000:=ha9.2.2.1
 have hd8:d.length≤32:=by omega
 have hdl:(d++y).length - d.length=y.length:=by rw[List.length_append];omega
 refine la U (.assign rfl .nil) fun Y U =>?_
 refine zsr fun K0 hK0 =>?_
 refine k9 U (.move rfl<|.move rfl<|.c rfl (fun _ h_=>oK h_ rfl rfl (r:=32) rfl)<|.conv rfl U3 nb (IntWalk.u64_in _ (by omega)) .nil) fun Y U =>?_
 refine plz (ecl U Tryz.func59 rfl (nY (hN:=hN) _ _ _ _ _ hb hbb (m0.into [(1,1),(2,2)] (by decide) rfl)) ?_)
 rintro e ao ⟨ap,aq,rfl,ac⟩
 have ad:=m0.back ac [(1,1),(2,2)] (by decide);clear ac m0
 have ab:=ad.oz [1,2]
 refine⟨_,rfl,?_⟩;intro Y U
 refine gz hK0 U (.assign rfl .nil) fun Y U =>?_
 refine wsk fun K1 hK1 =>?_
 replace U:=U.oz [0,4,5]
 refine la U (.move rfl<|.nilCheck rfl<|.fieldAddr (off:=0) rfl rA rfl (s:=1) (by kernel_rfl) rfl<|.fa 1 rfl pP<|.lb ab 1 U43 rfl rfl rfl<|.neq rfl rfl .nil) fun Y U =>?_
 refine bcF U 17 fun U =>?_
 refine wcf U ?_
 refine zss (hK1 _ _ ?_)
 refine wsk fun K2 hK2 =>?_
 replace U:=U.oz [0,4,5]
 refine la U (.move rfl<|.move rfl<|.nilCheck rfl<|.fieldAddr (off:=0) rfl rA rfl (s:=1) (by kernel_rfl) rfl<|.fa 0 rfl pP<|.lb ab 1 U22 rfl rfl rfl<|.len rfl U22<|.conv rfl U3 nb (r:=((d++y).length:Int)) (IntWalk.u64_in _ (by omega))<|.gtr rfl rfl .nil) fun Y U =>?_
 refine bc U 26 ?_ ?_
 · intro hb _;exact absurd hb (by rw[decide_eq_true_eq,List.length_append];omega)
 clear U;intro _ U
 refine wcf U ?_
 refine zss (hK2 _ _ ?_)
 replace U:=U.oz [0,4,5]
 refine zsr fun K3 hK3 =>?_
 refine k9 U (.move rfl<|.nilCheck rfl<|.fieldAddr (off:=0) rfl rA rfl (s:=1) (by kernel_rfl) rfl<|.fa 0 rfl pP<|.lb ab 1 U22 rfl rfl rfl<|.move rfl .nil) fun Y U =>?_
 have ae:=ab.takeN (i:=2) rfl d.length (by rw[List.length_append];omega) 20 rfl
 have aa:=(ab.rd (i:=2) rfl).ns_out.cap;clear ab
 rw[List.take_left] at ae
 refine k9 U (.c rfl (fun _ h_=>mD h_ (d.length) rfl rfl U22 mW rfl (by have:=aa.1;rw[List.length_append] at this;omega)) .nil) fun Y U =>?_
 refine plz (lq U ae 21 (mm:=1) rfl (.cons rfl rfl (.cons (ae.rd (i:=20) rfl) .nil) .nil) U59 mG rfl rfl rfl rfl rfl fun ar Y au U aj =>?_)
 have ag:=aj.freezeR 21 rfl
 refine plz (ecn U Tryz.func38 rfl ag 22 (lB (ls:=[d]) (S:=d) ((ag.rd (i:=21) rfl).any) (by simp) (by simp [lD];omega) (by simp)) fun av aw Y ax U ah =>?_)
 refine gz hK3 U (.assign rfl .nil) fun Y U =>?_
 replace U:=U.oz [0,4,5,6]
 refine zsr fun K4 hK4 =>?_
 refine k9 U (.move rfl<|.move rfl<|.nilCheck rfl<|.fieldAddr (off:=0) rfl rA rfl (s:=1) (by kernel_rfl) rfl<|.fa 0 rfl pP<|.lb ah 1 U22 rfl rfl rfl<|.move rfl .nil) fun Y U =>?_
 have ai:=ah.dropN (i:=2) rfl d.length (by rw[List.length_append];omega) 23 rfl
 rw[List.drop_left,hdl] at ai
 refine k9 U (.c rfl (fun _ h_=>ra h_ (d.length) rfl rfl U22 mW rfl (by rw[List.length_append];omega) hdl)<|.nilCheck rfl<|.fieldAddr (off:=0) rfl rA rfl (s:=1) (by kernel_rfl) rfl<|.fa 0 rfl pP .nil) fun Y U =>?_
 refine plz (st1 U ai 1 oN fun ay ak _ =>?_)
 refine znl (hK4 _ _ ?_)
 replace U:=U.oz [4,6]
 refine la U (.move rfl<|.assign rfl .nil) fun Y U =>?_
 refine rt1 U ?_
 have al:=ak.freezeN 22 rfl
 exact⟨_,_,_,_,rfl,al.ren [(1,1),(2,23),(3,22)] (by decide)⟩
theorem zw(X:Cx)(vo ch cn sz mk fl:Int)(H:List (List Ver))(p:Option Addr)(nn c:Nat)(w0:World)(hl:H.length≤1000000)(hok:vr H)(hns:∀ h∈H,∀ v∈h,0≤v.1∧v.1≤1099511627776∧v.2.length≤1000)(hB:(H.flatMap hsB).length≤100000000)(hv:0≤vo∧vo≤1099511627776)(hc:0≤ch∧ch≤1099511627776)(hcn:0≤cn∧cn≤1099511627776)(hsz:0≤sz∧sz≤1099511627776)(hmk:0≤mk∧mk≤1099511627776)(hfl:0≤fl∧fl≤1099511627776)(m0:MemOk X w0 [(1,.dat (.slice p nn c) (.l 1 (H.map hD)))] w0) :
   Calls Tryz.prog 25 #[.agg #[.int .i64 vo,.int .i64 ch,.int .i64 cn,.int .i64 sz,.int .i64 mk,.int .i64 fl,.slice p nn c]] w0 fun e w' => ∃ (p9:Option Addr) (c9:Nat),e=.returned (.slice p9 (oB vo ch cn sz mk fl H).length c9)∧MemOk X w0 [(1,.dat (.slice p nn c) (.l 1 (H.map hD))),(9,.num (.slice p9 (oB vo ch cn sz mk fl H).length c9) 5 .u8 (oB vo ch cn sz mk fl H))] w':=by
 refine mp Tryz.func25 rfl Tryz.ntmps25 fun Y U =>?_
 have hnn:nn=H.length:=nX (m0.rd (i:=1) rfl)
 revert U
 subst hnn
 intro U
 refine zsr fun K0 hK0 =>?_
 refine plz (ly U m0 30 (cs:=[_,_,_,_,_,_,_]) rfl rfl rfl fun g1 Y w2 U m2 _ _ =>?_)
 refine gz hK0 U (.assign rfl .nil) fun Y U =>?_
 refine wsk fun K1 hK1 =>?_
 have hC1:∀ (a:Act) (w:World),(∃ (gP:Nat) (p9:Option Addr) (c9:Nat),Has 59 [(1,.pointer (some ⟨gP,0,none⟩)),(3,.slice p9 ((ll [vo,ch,cn,sz]++ll [mk,fl])).length c9)] a∧MemOk X w0 [(1,.dat (.slice p H.length c) (.l 1 (H.map hD))),(9,.num (.slice p9 ((ll [vo,ch,cn,sz]++ll [mk,fl])).length c9) 5 .u8 ((ll [vo,ch,cn,sz]++ll [mk,fl]))),(11,.box gP 39 [.int .i64 vo,.int .i64 ch,.int .i64 cn,.int .i64 sz,.int .i64 mk,.int .i64 fl,.slice p H.length c])] w)→K1 a w:=by
   clear U m2
   rintro Y w4 ⟨gP,p9,c9,U,m4⟩
   refine hK1 _ _ ?_
   refine wsk fun K2 hK2 =>?_
   refine la U (.fa 6 rfl U39<|.lb m4 11 U37 rfl rfl rfl<|.len rfl U37<|.move rfl .nil) fun Y U =>?_
   refine wp_block ?_
   refine wp_loop_ghost (fun g a w => ∃ (k gP:Nat) (p9:Option Addr) (c9:Nat),k≤H.length∧g=H.length - k∧Has 59 [(1,.pointer (some ⟨gP,0,none⟩)),(3,.slice p9 ((ll [vo,ch,cn,sz]++ll [mk,fl])++(H.take k).flatMap hsB).length c9),(27,.slice p H.length c),(28,.int .i64 H.length),(29,.int .i64 k)] a∧MemOk X w0 [(1,.dat (.slice p H.length c) (.l 1 (H.map hD))),(9,.num (.slice p9 ((ll [vo,ch,cn,sz]++ll [mk,fl])++(H.take k).flatMap hsB).length c9) 5 .u8 ((ll [vo,ch,cn,sz]++ll [mk,fl])++(H.take k).flatMap hsB)),(11,.box gP 39 [.int .i64 vo,.int .i64 ch,.int .i64 cn,.int .i64 sz,.int .i64 mk,.int .i64 fl,.slice p H.length c])] w) (H.length) ?_ ?_
   · have hE:(ll [vo,ch,cn,sz]++ll [mk,fl])=(ll [vo,ch,cn,sz]++ll [mk,fl])++(H.take 0).flatMap hsB:=by simp
     rw[hE] at m4 U
     exact⟨0,_,_,_,Nat.zero_le _,rfl,U.only [1,3,27,28,29],m4.ren [(1,1),(9,9),(11,11)] (by decide)⟩
   clear U m4
   rintro g Y w9 ⟨k,gP,p9,c9,hkl,hg,U,m9⟩
   refine la U (.lss rfl rfl .nil) fun Y U =>?_
   refine wsk fun K3 hK3 =>?_
   refine bc U 30 ?_ ?_
   ·
    intro ac U;try simp only [QQ,Qax] at ac
    have hk:k<H.length:=by have:=ac;first|omega|(simp at this;omega)
    obtain⟨h9,hes⟩:∃ e,H[k]? = some e:=⟨_,List.getElem?_eq_getElem hk⟩
    have hh9:=hok _ (List.mem_of_getElem? hes)
    have hml:(h9.map itD).length=h9.length:=List.length_map _
    refine wct U ?_
    refine zss (hK3 _ _ ?_)
    refine wsk fun K4 hK4 =>?_
    refine wp_block ?_
    refine zsr fun K5 hK5 =>?_
    obtain⟨aP,aQ,bp,aR,aS,aT,ba⟩:=m9.openR (i:=1) rfl (k) (r:=[.l 2 (h9.map itD)]) (mS hes) 200 rfl
    revert U
    cases aR;clear m9 aT
    rcases aS with _|⟨aa,_|_⟩
    obtain⟨cd,ce,aU,bq⟩:=aa.l_shape;subst aU
    intro U
    have bb:=ba.dat 201 rfl (aa.cast (fun _ h=>(lf rfl h)));clear ba aa
    refine gz hK5 U (.c rfl (fun _ h_=>li h_ rfl rfl U37 mJ (k) rfl hk)<|.loadC0 bb (i:=200) rfl rfl U94 rfl<|.assign rfl<|.nil) fun Y U =>?_
    refine zsr fun K6 hK6 =>?_
    refine k9 U (.move rfl<|.move rfl<|.len rfl U94 .nil) fun Y U =>?_
    refine plz (lj U bb 202 (k:=.i64) rfl rfl U31 ov rfl rfl rfl rfl fun cf Y cg U br =>?_)
    have bd:=br.freezeN 202 rfl
    refine plz (ecn U Tryz.func39 rfl bd 203 (lz [((h9.map itD).length:Int)] _ _ _ ((bd.rd (i:=202) rfl).any) (by simp) (b63 (by simp;omega))) fun ci cj Y ck U be =>?_)
    refine plz (lE U be 9 rfl rfl rfl (be.numsO (i:=203) rfl) U22 lJ (by decide) (by have hq1:=oC (f:=hsB) (l:=H) k;have hq2:=uF (f:=hsB) hes;have hq3:(hsB h9).length=(ll [(h9.length:Int)]).length+(h9.flatMap itB).length:=(by unfold hsB;rw[List.length_append]);have hq4:=k8 [((h9.map itD).length:Int)];have hq5:=k8 [vo,ch,cn,sz];have hq6:=k8 [mk,fl];simp only [List.length_cons,List.length_nil] at hq4 hq5 hq6;simp only [List.length_append];omega) rfl fun cl cm Y co U aV =>?_)
    refine gz hK6 U (.assign rfl .nil) fun Y U =>?_
    replace U:=U.oz [1,3,27,28,29,5]
    refine la U (.move rfl<|.len rfl U94<|.move rfl .nil) fun Y U =>?_
    refine wp_block ?_
    refine wp_loop_ghost (fun g a w => ∃ (j gP:Nat) (p9:Option Addr) (c9:Nat) (px:Option Addr) (cx:Nat),j≤h9.length∧g=h9.length - j∧Has 59 [(1,.pointer (some ⟨gP,0,none⟩)),(3,.slice p9 ((ll [vo,ch,cn,sz]++ll [mk,fl])++(H.take k).flatMap hsB++ll [((h9.map itD).length:Int)]++(h9.take j).flatMap itB).length c9),(27,.slice (some ⟨aP,aQ,none⟩) H.length c),(28,.int .i64 H.length),(29,.int .i64 k),(39,.slice px (h9.map itD).length cx),(40,.int .i64 (h9.map itD).length),(41,.int .i64 j)] a∧MemOk X w0 [(1,.dat (.slice (some ⟨aP,aQ,none⟩) H.length c) (.l 1 (H.map hD))),(9,.num (.slice p9 ((ll [vo,ch,cn,sz]++ll [mk,fl])++(H.take k).flatMap hsB++ll [((h9.map itD).length:Int)]++(h9.take j).flatMap itB).length c9) 5 .u8 ((ll [vo,ch,cn,sz]++ll [mk,fl])++(H.take k).flatMap hsB++ll [((h9.map itD).length:Int)]++(h9.take j).flatMap itB)),(11,.box gP 39 [.int .i64 vo,.int .i64 ch,.int .i64 cn,.int .i64 sz,.int .i64 mk,.int .i64 fl,.slice (some ⟨aP,aQ,none⟩) H.length c]),(14,.dat (.slice px (h9.map itD).length cx) (.l 2 (h9.map itD)))] w) (h9.length) ?_ ?_
    · have hE:(ll [vo,ch,cn,sz]++ll [mk,fl])++(H.take k).flatMap hsB++ll [((h9.map itD).length:Int)]=(ll [vo,ch,cn,sz]++ll [mk,fl])++(H.take k).flatMap hsB++ll [((h9.map itD).length:Int)]++(h9.take 0).flatMap itB:=by simp
      rw[hE] at aV U
      exact⟨0,_,_,_,_,_,Nat.zero_le _,rfl,U.only [1,3,27,28,29,39,40,41],aV.ren [(1,1),(9,9),(11,11),(14,201)] (by decide)⟩
    clear U aV
    rintro g Y cp ⟨j,gP,p9,c9,px,cx,hjl,hg2,U,aN⟩
    refine la U (.lss rfl rfl .nil) fun Y U =>?_
    refine wsk fun K7 hK7 =>?_
    refine bc U 42 ?_ ?_
    ·
     intro ad U;try simp only [QQ,Qax] at ad
     have hj:j<h9.length:=by have:=ad;first|(rw[List.length_map] at this;omega)|(simp at this;omega)
     obtain⟨⟨xs,xd⟩,hxs⟩:∃ e,h9[j]? = some e:=⟨_,List.getElem?_eq_getElem hj⟩
     have hxd:=hh9.2 _ (List.mem_of_getElem? hxs)
     have hxs9:=hns _ (List.mem_of_getElem? hes) _ (List.mem_of_getElem? hxs)
     dsimp only at hxd hxs9
     refine wct U ?_
     refine zss (hK7 _ _ ?_)
     refine wsk fun K8 hK8 =>?_
     refine wp_block ?_
     refine zsr fun K9 hK9 =>?_
     obtain⟨cq,cr,bs,aW,aX,aY,bf⟩:=aN.openR (i:=14) rfl (j) (r:=[.v (.int .i64 xs),.ns .u8 xd]) (lm hxs) 300 rfl
     revert U
     cases aW;clear aN aY
     rcases aX with _|⟨ae,_|⟨ab,_|_⟩⟩
     obtain rfl:=ae.v_out
     clear ae
     obtain⟨ct,cu,aZ,bt⟩:=ab.ns_shape;subst aZ
     intro U
     have bg:=bf.dat 301 rfl (ab.cast (fun _ h=>(lf rfl h)));clear bf ab
     refine k9 U (.c rfl (fun _ h_=>li h_ rfl rfl U94 lN (j) rfl (by rw[List.length_map];omega))<|.loadCR bg (i:=300) rfl rfl nf rfl lN .nil) fun Y U =>?_
     refine plz (lc U bg 302 oc rfl fun cv Y cw U bu _ _ =>?_)
     refine plz (stw U bu 302 lN fun cy bv _ =>?_)
     refine znl (hK9 _ _ ?_)
     have a0:=bv.oz [1,9,11,14,300,301,302]
     refine region_p 12 (B:=[(1,_),(11,_),(14,_),(300,_),(301,_),(302,_)]) (a0.to i6l) a0 (by kernel_rfl) (fun cz ap bh =>?_);clear a0
     refine goR ap [0,1,2,5,6] [2,6] 5 0 103 U (bh.to i6l) (.move rfl<|.fa 0 rfl nf<|.lb hh 302 U2 rfl rfl rfl<|.fa 1 rfl nf<|.lb hh 302 U22 rfl rfl rfl .nil) fun Y U =>?_
     refine so 3 ?_
     refine lj U bh 303 (k:=.i64) rfl rfl U32 lS rfl rfl rfl rfl fun cA Y cB U bi =>?_
     refine⟨bi.to i6l,?_⟩
     have bj:=bi.freezeN 303 rfl
     refine so 4 ?_
     refine ecn U Tryz.func40 rfl bj 304 (lM [xs] _ _ _ ((bj.rd (i:=303) rfl).any) (by simp) (b63 (by simp;omega))) fun cC cD Y cE U a1 =>?_
     refine⟨a1.to i6l,?_⟩
     refine so 7 ?_
     refine ecn U Tryz.func41 rfl a1 305 (uD xd _ _ _ ((a1.rd (i:=301) rfl).any) (by omega)) fun cF cG Y cH U bk =>?_
     refine⟨bk.to i6l,?_⟩
     have bw:=bk.freezeN 304 rfl
     have a2:=bw.freezeN 305 rfl
     refine so 8 ?_
     refine lq U a2 306 (mm:=1) rfl (.cons rfl rfl (.cons (a2.rd (i:=304) rfl) .nil)<|.cons rfl rfl (.cons (a2.rd (i:=305) rfl) .nil) .nil) U59 mG rfl rfl rfl rfl rfl fun cI Y cJ U bm =>?_
     refine⟨bm.to i6l,?_⟩
     have bn:=bm.freezeR 306 rfl
     refine so 9 ?_
     refine ecn U Tryz.func38 rfl bn 307 (lB (ls:=[ll [xs],enc (xd.length:Int)++xd]) (S:=itB (xs,xd)) ((bn.rd (i:=306) rfl).any) (by simp) (by simp [lD];first|(have h1:=k8 [vo,ch,cn,sz];have h2:=k8 [mk,fl];simp at h1 h2;omega)|(have h1:=k8 [xs];have h2:=(lv (xd.length:Int)).1;simp at h1;omega)) (by first|(simp [itB];done)|simp)) fun cK cL Y cM U a3 =>?_
     refine⟨a3.to i6l,?_⟩
     refine so 10 ?_
     refine lE U a3 9 rfl rfl rfl (a3.numsO (i:=307) rfl) U22 lJ (by decide) (by have hq1:=oC (f:=hsB) (l:=H) k;have hq2:=uF (f:=hsB) hes;have hq3:(hsB h9).length=(ll [(h9.length:Int)]).length+(h9.flatMap itB).length:=(by unfold hsB;rw[List.length_append]);have hq4:=k8 [((h9.map itD).length:Int)];have hq5:=k8 [vo,ch,cn,sz];have hq6:=k8 [mk,fl];have hq7:=oC (f:=itB) (l:=h9) j;have hq8:=k8 [xs];have hq9:=(lv (xd.length:Int)).1;simp only [List.length_cons,List.length_nil] at hq4 hq5 hq6 hq8;simp only [itB,List.length_append];omega) rfl fun cN cO Y cP U aO =>?_
     refine⟨aO.to i6l,?_⟩
     refine goA ap [11] 1 2047 4095 U (aO.to i6l) (.assign rfl .nil) fun Y U =>?_
     refine wad ?_
     refine hK8 _ _ ?_
     replace U:=U.oz [1,3,27,28,29,39,40,41]
     refine wp_region_lit ?_
     refine k9 U (.inc (j+1)<|.move rfl .nil) fun Y U =>?_
     refine wpList_nil ?_
     show ∃ n',n'<_∧_
     have hE:(ll [vo,ch,cn,sz]++ll [mk,fl])++(H.take k).flatMap hsB++ll [((h9.map itD).length:Int)]++(h9.take j).flatMap itB++itB (xs,xd)=(ll [vo,ch,cn,sz]++ll [mk,fl])++(H.take k).flatMap hsB++ll [((h9.map itD).length:Int)]++(h9.take (j+1)).flatMap itB:=by rw[ln hxs,List.flatMap_append];simp
     rw[hE] at aO U
     exact⟨h9.length - (j+1),by omega,j+1,_,_,_,_,_,by omega,rfl,U.only [1,3,27,28,29,39,40,41],aO.ren [(1,1),(9,9),(11,11),(14,14)] (by decide)⟩
    intro ad U;try simp only [QQ,Qax] at ad
    revert U
    obtain rfl:j=h9.length:=by have:=ad;first|(rw[List.length_map] at this;omega)|(simp at this;omega)
    intro U
    refine wcf U ?_
    refine wp_exit ?_
    refine hK4 _ _ ?_
    refine wp_region_lit ?_
    refine k9 U (.inc (k+1)<|.move rfl .nil) fun Y U =>?_
    refine wpList_nil ?_
    show ∃ n',n'<_∧_
    have hE:(ll [vo,ch,cn,sz]++ll [mk,fl])++(H.take k).flatMap hsB++ll [((h9.map itD).length:Int)]++(h9.take h9.length).flatMap itB=(ll [vo,ch,cn,sz]++ll [mk,fl])++(H.take (k+1)).flatMap hsB:=by rw[List.take_length,ln hes,List.flatMap_append];simp [hsB]
    rw[hE] at aN U
    exact⟨H.length - (k+1),by omega,k+1,_,_,_,by omega,rfl,U.only [1,3,27,28,29],aN.ren [(1,1),(9,9),(11,11)] (by decide)⟩
   intro ac U;try simp only [QQ,Qax] at ac
   revert U
   obtain rfl:k=H.length:=by have:=ac;first|omega|(simp at this;omega)
   intro U
   refine wcf U ?_
   refine wp_exit ?_
   refine hK2 _ _ ?_
   refine la U (.move rfl<|.assign rfl .nil) fun Y U =>?_
   refine rt1 U ?_
   have hE9:(ll [vo,ch,cn,sz]++ll [mk,fl])++H.flatMap hsB=oB vo ch cn sz mk fl H:=rfl
   rw[List.take_length,hE9] at m9
   rw[List.take_length,hE9]
   exact⟨_,_,rfl,m9.ren [(1,1),(9,9)] (by decide)⟩
 have a4:=m2.oz [1,30]
 refine region_p 19 (B:=[(1,_),(30,_)]) (a4.to i2l) a4 (by kernel_rfl) (fun cQ ag a5 =>?_);clear a4
 refine goR ag [0,1,2,3,4,5,6,7,10,11,12,13] [1,3,5,7,11,13] 12 0 15615 U (a5.to i2l) (.fa 0 rfl U39<|.lb hh 30 U3 rfl rfl rfl<|.fa 1 rfl U39<|.lb hh 30 U3 rfl rfl rfl<|.fa 2 rfl U39<|.lb hh 30 U3 rfl rfl rfl<|.fa 3 rfl U39<|.lb hh 30 U3 rfl rfl rfl<|.fa 4 rfl U39<|.lb hh 30 U2 rfl rfl rfl<|.fa 5 rfl U39<|.lb hh 30 U2 rfl rfl rfl .nil) fun Y U =>?_
 refine dtw 8 14 ?_ ?_
 ·
  refine lj U a5 31 (k:=.i64) rfl rfl U31 ov rfl rfl rfl rfl fun cR Y cS U a6 =>?_
  refine⟨fun _=>(a6.to i2l),?_⟩
  refine dtw 9 14 ?_ ?_
  ·
   have bo:=a6.freezeN 31 rfl
   refine ecn U Tryz.func39 rfl bo 32 (lz [vo,ch,cn,sz] _ _ _ ((bo.rd (i:=31) rfl).any) (by simp) (b63 (by simp;omega))) fun cT cU Y cV U aq =>?_
   refine⟨fun _=>(aq.to i2l),?_⟩
   refine so 14 ?_
   refine lj U aq 33 (k:=.i64) rfl rfl U32 lS rfl rfl rfl rfl fun bx Y bz U ar =>?_
   refine⟨ar.to i2l,?_⟩
   have au:=ar.freezeN 33 rfl
   refine so 15 ?_
   refine ecn U Tryz.func40 rfl au 34 (lM [mk,fl] _ _ _ ((au.rd (i:=33) rfl).any) (by simp) (b63 (by simp;omega))) fun bA bB Y bC U av =>?_
   refine⟨av.to i2l,?_⟩
   have a7:=av.freezeN 32 rfl
   have ah:=a7.freezeN 34 rfl
   refine so 16 ?_
   refine lq U ah 35 (mm:=1) rfl (.cons rfl rfl (.cons (ah.rd (i:=32) rfl) .nil)<|.cons rfl rfl (.cons (ah.rd (i:=34) rfl) .nil) .nil) U59 mG rfl rfl rfl rfl rfl fun bE Y bF U aw =>?_
   refine⟨aw.to i2l,?_⟩
   have ax:=aw.freezeR 35 rfl
   refine so 17 ?_
   refine ecn U Tryz.func38 rfl ax 36 (lB (ls:=[ll [vo,ch,cn,sz],ll [mk,fl]]) (S:=(ll [vo,ch,cn,sz]++ll [mk,fl])) ((ax.rd (i:=35) rfl).any) (by simp) (by simp [lD];first|(have h1:=k8 [vo,ch,cn,sz];have h2:=k8 [mk,fl];simp at h1 h2;omega)|(have h1:=k8 [xs];have h2:=(lv (xd.length:Int)).1;simp at h1;omega)) (by first|(simp [itB];done)|simp)) fun bG bH Y bI U ai =>?_
   refine⟨ai.to i2l,?_⟩
   refine goA ag [18] 1 262143 524287 U (ai.to i2l) (.assign rfl .nil) fun Y U =>?_
   refine wad ?_
   show K1 _ _
   exact hC1 _ _ ⟨_,_,_,U.only [1,3],ai.ren [(1,1),(9,36),(11,30)] (by decide)⟩
  refine lj U a6 32 (k:=.i64) rfl rfl U32 lS rfl rfl rfl rfl fun bJ Y bK U ay =>?_
  refine⟨fun _=>(ay.to i2l),?_⟩
  have az:=ay.freezeN 31 rfl
  refine so 9 ?_
  refine ecn U Tryz.func39 rfl az 33 (lz [vo,ch,cn,sz] _ _ _ ((az.rd (i:=31) rfl).any) (by simp) (b63 (by simp;omega))) fun bL bM Y bN U aA =>?_
  refine⟨aA.to i2l,?_⟩
  have aB:=aA.freezeN 32 rfl
  refine so 15 ?_
  refine ecn U Tryz.func40 rfl aB 34 (lM [mk,fl] _ _ _ ((aB.rd (i:=32) rfl).any) (by simp) (b63 (by simp;omega))) fun bO bP Y bQ U aC =>?_
  refine⟨aC.to i2l,?_⟩
  have a8:=aC.freezeN 33 rfl
  have aj:=a8.freezeN 34 rfl
  refine so 16 ?_
  refine lq U aj 35 (mm:=1) rfl (.cons rfl rfl (.cons (aj.rd (i:=33) rfl) .nil)<|.cons rfl rfl (.cons (aj.rd (i:=34) rfl) .nil) .nil) U59 mG rfl rfl rfl rfl rfl fun bR Y bS U aD =>?_
  refine⟨aD.to i2l,?_⟩
  have aE:=aD.freezeR 35 rfl
  refine so 17 ?_
  refine ecn U Tryz.func38 rfl aE 36 (lB (ls:=[ll [vo,ch,cn,sz],ll [mk,fl]]) (S:=(ll [vo,ch,cn,sz]++ll [mk,fl])) ((aE.rd (i:=35) rfl).any) (by simp) (by simp [lD];first|(have h1:=k8 [vo,ch,cn,sz];have h2:=k8 [mk,fl];simp at h1 h2;omega)|(have h1:=k8 [xs];have h2:=(lv (xd.length:Int)).1;simp at h1;omega)) (by first|(simp [itB];done)|simp)) fun bT bU Y bV U ak =>?_
  refine⟨ak.to i2l,?_⟩
  refine goA ag [18] 1 262143 524287 U (ak.to i2l) (.assign rfl .nil) fun Y U =>?_
  refine wad ?_
  show K1 _ _
  exact hC1 _ _ ⟨_,_,_,U.only [1,3],ak.ren [(1,1),(9,36),(11,30)] (by decide)⟩
 refine lj U a5 31 (k:=.i64) rfl rfl U32 lS rfl rfl rfl rfl fun bW Y bX U aF =>?_
 refine⟨fun _=>(aF.to i2l),?_⟩
 refine so 8 ?_
 refine lj U aF 32 (k:=.i64) rfl rfl U31 ov rfl rfl rfl rfl fun bY Y bZ U aG =>?_
 refine⟨aG.to i2l,?_⟩
 have aH:=aG.freezeN 32 rfl
 refine so 9 ?_
 refine ecn U Tryz.func39 rfl aH 33 (lz [vo,ch,cn,sz] _ _ _ ((aH.rd (i:=32) rfl).any) (by simp) (b63 (by simp;omega))) fun b0 b1 Y b4 U aI =>?_
 refine⟨aI.to i2l,?_⟩
 have aJ:=aI.freezeN 31 rfl
 refine so 15 ?_
 refine ecn U Tryz.func40 rfl aJ 34 (lM [mk,fl] _ _ _ ((aJ.rd (i:=31) rfl).any) (by simp) (b63 (by simp;omega))) fun b5 b6 Y b7 U aK =>?_
 refine⟨aK.to i2l,?_⟩
 have a9:=aK.freezeN 33 rfl
 have al:=a9.freezeN 34 rfl
 refine so 16 ?_
 refine lq U al 35 (mm:=1) rfl (.cons rfl rfl (.cons (al.rd (i:=33) rfl) .nil)<|.cons rfl rfl (.cons (al.rd (i:=34) rfl) .nil) .nil) U59 mG rfl rfl rfl rfl rfl fun b8 Y b9 U aL =>?_
 refine⟨aL.to i2l,?_⟩
 have aM:=aL.freezeR 35 rfl
 refine so 17 ?_
 refine ecn U Tryz.func38 rfl aM 36 (lB (ls:=[ll [vo,ch,cn,sz],ll [mk,fl]]) (S:=(ll [vo,ch,cn,sz]++ll [mk,fl])) ((aM.rd (i:=35) rfl).any) (by simp) (by simp [lD];first|(have h1:=k8 [vo,ch,cn,sz];have h2:=k8 [mk,fl];simp at h1 h2;omega)|(have h1:=k8 [xs];have h2:=(lv (xd.length:Int)).1;simp at h1;omega)) (by first|(simp [itB];done)|simp)) fun ca cb Y cc U ao =>?_
 refine⟨ao.to i2l,?_⟩
 refine goA ag [18] 1 262143 524287 U (ao.to i2l) (.assign rfl .nil) fun Y U =>?_
 refine wad ?_
 show K1 _ _
 exact hC1 _ _ ⟨_,_,_,U.only [1,3],ao.ren [(1,1),(9,36),(11,30)] (by decide)⟩
end
section
theorem yy:lR Tryz.prog 25 [.int .i64 0,.int .i64 0,.int .i64 0,.int .i64 0,.int .i64 0,.int .i64 0,.int .i64 0,.slice none 0 0]=true:=by kernel_rfl
theorem yz:lR Tryz.prog 30 [.int .i64 0,.slice none 0 0]=true:=by kernel_rfl
theorem yA:lR Tryz.prog 78 [.int .i64 0,.slice none 0 0]=true:=by kernel_rfl
theorem mr{b y:List Int}{a mx er er2:Int}(hN:lQ b er mx=(a,y,er2))(h:b.length≤1000000∧lg b)(h0:0≤mx:=by decide):y.length≤1000000∧lg y:=by
 have:=nr hN h.2 h.1 h0
 exact⟨this.2.2.1,this.2.2.2.1⟩
theorem uG{x:Int×List Int}(h0:x.1≤1099511627776)(hl:x.2.length≤1000000)(hb:lg x.2):lg (itB x):=by
 unfold itB
 exact nt (m1 (fun y hy=>by rw[List.mem_singleton.1 hy];omega)) (nt (vY (by omega)) hb)
theorem oQ{α:Type}{f:α→List Int}{l:List α}(h:∀ x∈l,lg (f x)):lg (l.flatMap f):=fun y hy=>by
 obtain⟨x,hx,h2⟩:=List.mem_flatMap.1 hy
 exact h x hx y h2
section
variable {vo ch cn sz fr to fl:Int} {W:List (Int×List (Int×List Int))}
theorem re(hP:nA vo ch cn sz fr to fl W)(hWb:∀ e∈W,∀ x∈e.2,lg x.2){e:Int×List (Int×List Int)}(he:e∈W):lg (wrB e):=by
 obtain⟨k,hk,rfl⟩:=List.getElem_of_mem he
 have hes:W[k]? = some ((W[k]).1,(W[k]).2):=List.getElem?_eq_getElem hk
 have h1:=o7 hP hes
 have h2:=oy hP hes
 unfold wrB
 refine nt (nt (m1 fun y hy=>by rw[List.mem_singleton.1 hy];omega) (m1 fun y hy=>by rw[List.mem_singleton.1 hy];omega)) (oQ fun x hx =>?_)
 obtain⟨j,hj,rfl⟩:=List.getElem_of_mem hx
 have h3:=nI hP hes (j:=j) (xb:=((W[k]).2[j]).1) (xd:=((W[k]).2[j]).2) (List.getElem?_eq_getElem hj)
 have h4:=hP.1.2.2.1
 exact uG (by omega) (by omega) (hWb _ he _ (List.getElem_mem hj))
theorem uH(hP:nA vo ch cn sz fr to fl W):(mO vo ch cn sz fr to fl W).length≤1000000:=by
 have h1:=ng hP W.length
 have h2:=oe vo ch cn sz fr to fl W
 have h3:=hP.2.2.2.2.1
 rw[List.take_length] at h1
 unfold mO
 rw[List.length_append];omega
theorem tG(hP:nA vo ch cn sz fr to fl W)(hWb:∀ e∈W,∀ x∈e.2,lg x.2):lg (mO vo ch cn sz fr to fl W):=by
 obtain⟨⟨hv0,hv1⟩,⟨hc0,hc1⟩,⟨hn0,hn1⟩,⟨hz0,hz1⟩⟩:=hP.1
 have h1:=hP.2.1;have h2:=hP.2.2.1;have h3:=hP.2.2.2.1;have h4:=hP.2.2.2.2.1
 unfold mO hdB
 refine nt (nt (m1 fun y hy =>?_) (nt (m1 fun y hy =>?_) (m1 fun y hy =>?_))) (oQ fun e he=>re hP hWb he)
 · simp at hy;rcases hy with rfl|rfl|rfl|rfl <;> omega
 · simp at hy;rcases hy with rfl|rfl|rfl <;> omega
 simp at hy;omega
theorem rg(hP:nA vo ch cn sz fr to fl W)(hWb:∀ e∈W,∀ x∈e.2,lg x.2)(k:Nat):((W.drop k).flatMap wrB).length≤1000000∧lg ((W.drop k).flatMap wrB):=by
 refine⟨?_,oQ fun e he=>re hP hWb (List.mem_of_mem_drop he)⟩
 have h1:=ng hP W.length
 have h3:=hP.2.2.2.2.1
 rw[List.take_length] at h1
 have h:W.flatMap wrB=(W.take k).flatMap wrB++(W.drop k).flatMap wrB:=by rw[← List.flatMap_append,List.take_append_drop]
 rw[h,List.length_append] at h1
 omega
theorem tH(hP:nA vo ch cn sz fr to fl W)(hWb:∀ e∈W,∀ x∈e.2,lg x.2){k:Nat}{xs:Int}{xl:List (Int×List Int)}(hes:W[k]? = some (xs,xl))(j:Nat):((xl.drop j).flatMap itB++(W.drop (k+1)).flatMap wrB).length≤1000000∧lg ((xl.drop j).flatMap itB++(W.drop (k+1)).flatMap wrB):=by
 have h1:=rg hP hWb k
 have hk:=(List.getElem?_eq_some_iff.1 hes)
 rw[List.drop_eq_getElem_cons hk.1,hk.2,List.flatMap_cons] at h1
 have h2:wrB (xs,xl)=(ll [xs]++ll [(xl.length:Int)]++(xl.take j).flatMap itB)++(xl.drop j).flatMap itB:=by
   have e9:xl.flatMap itB=(xl.take j).flatMap itB++(xl.drop j).flatMap itB:=by rw[← List.flatMap_append,List.take_append_drop]
   show ll [xs]++ll [(xl.length:Int)]++xl.flatMap itB=_
   rw[e9]
   simp only [List.append_assoc]
 rw[h2,List.append_assoc] at h1
 exact⟨by have:=h1.1;rw[List.length_append] at this;omega,fun y hy=>h1.2 y (List.mem_append_right _ hy)⟩
theorem tI{rest:List Int}{to:Int}{k:Nat}{xs:Int}{xl:List (Int×List Int)}(hes:W[k]? = some (xs,xl))(h1:0≤xs∧xs≤to∧to≤1099511627776)(h8:xl.length≤8)(hr:rest=(W.drop (k+1)).flatMap wrB:=by rfl):∃ z,lQ ((W.drop k).flatMap wrB) 0 1099511627776=(xs,z,0)∧lQ z 0 8=((xl.length:Int),xl.flatMap itB++rest,0):=by
 have hk:=(List.getElem?_eq_some_iff.1 hes)
 refine⟨enc (xl.length:Int)++(xl.flatMap itB++rest),?_,lO _ (by omega) (by omega) _ _ (by omega)⟩
 have e:(W.drop k).flatMap wrB=enc xs++(enc (xl.length:Int)++(xl.flatMap itB++rest)):=by
   rw[List.drop_eq_getElem_cons hk.1,hk.2,List.flatMap_cons,hr]
   simp only [wrB,l8,List.append_assoc]
 rw[e]
 exact lO _ (by omega) (by omega) _ _ (by omega)
theorem uI{rest:List Int}{cn:Int}{j:Nat}{xb:Int}{xd:List Int}{xl:List (Int×List Int)}{R:List Int}(hxs:xl[j]? = some (xb,xd))(hb:0≤xb∧xb<cn)(hcn:cn≤256)(hd:xd.length≤32)(hr:rest=(xl.drop (j+1)).flatMap itB++R:=by rfl):∃ z,lQ ((xl.drop j).flatMap itB++R) 0 255=(xb,z,0)∧lQ z 0 32=((xd.length:Int),xd++rest,0):=by
 have hj:=(List.getElem?_eq_some_iff.1 hxs)
 refine⟨enc (xd.length:Int)++(xd++rest),?_,lO _ (by omega) (by omega) _ _ (by omega)⟩
 have e:(xl.drop j).flatMap itB++R=enc xb++(enc (xd.length:Int)++(xd++rest)):=by
   rw[List.drop_eq_getElem_cons hj.1,hj.2,List.flatMap_cons,hr]
   simp only [itB,l8,List.append_assoc]
 rw[e]
 exact lO _ (by omega) (by omega) _ _ (by omega)
theorem uJ(hP:nA vo ch cn sz fr to fl W):∃ y1 y2 y3 y4 y5 y6 y7,lQ (mO vo ch cn sz fr to fl W) 0 7=(vo,y1,0)∧lQ y1 0 255=(ch,y2,0)∧lQ y2 0 256=(cn,y3,0)∧lQ y3 0 32=(sz,y4,0)∧lQ y4 0 1099511627776=(fr,y5,0)∧lQ y5 0 1099511627776=(to,y6,0)∧lQ y6 0 1099511627776=(fl,y7,0)∧lQ y7 0 4=((W.length:Int),W.flatMap wrB,0):=by
 obtain⟨⟨hv0,hv1⟩,⟨hc0,hc1⟩,⟨hn0,hn1⟩,⟨hz0,hz1⟩⟩:=hP.1
 have h1:=hP.2.1;have h2:=hP.2.2.1;have h3:=hP.2.2.2.1;have h4:=hP.2.2.2.2.1
 have e:mO vo ch cn sz fr to fl W=enc vo++(enc ch++(enc cn++(enc sz++(enc fr++(enc to++(enc fl++(enc (W.length:Int)++W.flatMap wrB))))))):=by
   have hnil:ll []=[]:=rfl
   unfold mO hdB
   simp only [rh,hnil,List.nil_append,List.append_assoc]
 rw[e]
 exact⟨_,_,_,_,_,_,_,lO _ (by omega) (by omega) _ _ (by omega),lO _ (by omega) (by omega) _ _ (by omega),lO _ (by omega) (by omega) _ _ (by omega),lO _ (by omega) (by omega) _ _ (by omega),lO _ (by omega) (by omega) _ _ (by omega),lO _ (by omega) (by omega) _ _ (by omega),lO _ (by omega) (by omega) _ _ (by omega),lO _ (by omega) (by omega) _ _ (by omega)⟩
end
theorem zB(u v:Value)(xs ys:List Int)(w0:World)(h1:Rd (fun _=>True) w0 u (.ns .u8 xs))(h2:Rd (fun _=>True) w0 v (.ns .u8 ys))(hx:lg xs)(hy:lg ys) :
   Calls Tryz.prog 62 #[u,v] w0 fun e w'=>e=.returned (.bool (decide (xs=ys)))∧Below w0.heap.size w0 w':=
 (uK w0 u v xs ys h1.ns_out.nums h2.ns_out.nums hx hy).mono fun e w' h=>⟨h.1,by rw[h.2];exact Below.refl _ _⟩
theorem og(X:Cx)(vo ch cn sz fr to fl:Int)(W:List (Int×List (Int×List Int)))(b:List Int)(pb:Option Addr)(cb:Nat)(w0:World)(hP:nA vo ch cn sz fr to fl W)(hWb:∀ e∈W,∀ x∈e.2,lg x.2)(hbe:b=mO vo ch cn sz fr to fl W)(m0:MemOk X w0 [(1,.dat (.slice pb b.length cb) (.ns .u8 b))] w0) :
   Calls Tryz.prog 19 #[.slice pb b.length cb] w0 fun e w' => ∃ (p9:Option Addr) (c9:Nat),e=.returned (.tuple #[.agg #[.int .i64 vo,.int .i64 ch,.int .i64 cn,.int .i64 sz,.int .i64 fr,.int .i64 to,.int .i64 fl,.slice p9 (W.map wrD).length c9],.int .i64 0])∧MemOk X w0 [(1,.dat (.slice pb b.length cb) (.ns .u8 b)),(9,.dat (.slice p9 (W.map wrD).length c9) (.l 2 (W.map wrD)))] w':=by
 refine mp Tryz.func19 rfl Tryz.ntmps19 fun Y U =>?_
 have hbl:b.length≤1000000:=by rw[hbe];exact uH hP
 have hbb:lg b:=by rw[hbe];exact tG hP hWb
 have hWl:=hP.2.2.2.2.1
 obtain⟨y1,y2,y3,y4,y5,y6,y7,hN1,hN2,hN3,hN4,hN5,hN6,hN7,hN8⟩:=uJ hP
 rw[← hbe] at hN1
 have Y1:=mr hN1 ⟨hbl,hbb⟩
 have Y2:=mr hN2 Y1
 have Y3:=mr hN3 Y2
 have Y4:=mr hN4 Y3
 have Y5:=mr hN5 Y4
 have Y6:=mr hN6 Y5
 have Y7:=mr hN7 Y6
 obtain⟨⟨hv0,hv1⟩,⟨hc0,hc1⟩,⟨hn0,hn1⟩,⟨hz0,hz1⟩⟩:=hP.1
 obtain⟨ht0,ht1⟩:=hP.2.1
 obtain⟨hf0,hf1⟩:=hP.2.2.1
 obtain⟨hl0,hl1⟩:=hP.2.2.2.1
 refine zsr fun K0 hK0 =>?_
 refine plz (lc U m0 30 mL rfl fun g1 Y w2 U m2 _ _ =>?_)
 refine gz hK0 U (.assign rfl .nil) fun Y U =>?_
 refine zsr fun K1 hK1 =>?_
 refine k9 U (.move rfl .nil) fun Y U =>?_
 refine plz (ecl U Tryz.func27 rfl (sQ _ b _ _ _ hbl (m2.into [(1,1)] (by decide) rfl)) ?_)
 rintro e w6 ⟨gR,pr,cr,rfl,hm6⟩
 have mx6:=m2.back hm6 [(20,1),(21,2),(1,3)] (by decide);clear hm6 m2
 have m6:=mx6.oz [20,21,1,30]
 refine⟨_,rfl,?_⟩;intro Y U
 refine gz hK1 U (.assign rfl .nil) fun Y U =>?_
 refine zsr fun K2 hK2 =>?_
 refine k9 U (.move rfl .nil) fun Y U =>?_
 refine plz (ecl U Tryz.func57 rfl (oW hN1 hN2 hN3 hN4 _ _ _ _ _ hbl hbb (m6.into [(1,20),(2,21)] (by decide) rfl)) ?_)
 rintro e bL ⟨bM,bN,rfl,al⟩
 have aM:=m6.back al [(20,1),(21,2)] (by decide);clear al m6
 have bm:=aM.oz [20,21,1,30]
 refine⟨_,rfl,?_⟩;intro Y U
 refine plz (lc U bm 31 xg rfl fun bO Y bP U bn _ _ =>?_)
 refine plz (stw U bn 31 xf fun bQ ao _ =>?_)
 refine znl (hK2 _ _ ?_)
 refine zsr fun K3 hK3 =>?_
 refine k9 U (.fa 0 rfl U88<|.lb ao 31 U3 rfl rfl rfl<|.fa 1 rfl U88<|.lb ao 31 U3 rfl rfl rfl<|.fa 2 rfl U88<|.lb ao 31 U3 rfl rfl rfl<|.fa 3 rfl U88<|.lb ao 31 U3 rfl rfl rfl<|.build rfl mL yy rfl (by dsimp only [l9,List.set] <;> rfl) .nil) fun Y U =>?_
 refine plz (lc U ao 32 mL rfl fun bR Y bS U bo _ _ =>?_)
 refine plz (stw U bo 32 lF fun bT aN _ =>?_)
 refine znl (hK3 _ _ ?_)
 replace U:=U.oz [0,2,3,4,6]
 refine zsr fun K4 hK4 =>?_
 refine k9 U (.move rfl .nil) fun Y U =>?_
 refine plz (ecl U Tryz.func58 rfl (mU hN5 _ _ _ _ _ Y4.1 Y4.2 (aN.into [(1,20),(2,21)] (by decide) rfl)) ?_)
 rintro e bU ⟨bV,bW,rfl,ap⟩
 have aO:=aN.back ap [(20,1),(21,2)] (by decide);clear ap aN
 have aP:=aO.oz [20,21,1,30,31,32]
 refine⟨_,rfl,?_⟩;intro Y U
 refine k9 U (.move rfl .nil) fun Y U =>?_
 refine plz (ecl U Tryz.func58 rfl (mU hN6 _ _ _ _ _ Y5.1 Y5.2 (aP.into [(1,20),(2,21)] (by decide) rfl)) ?_)
 rintro e bX ⟨bY,bZ,rfl,aq⟩
 have aQ:=aP.back aq [(20,1),(21,2)] (by decide);clear aq aP
 have aR:=aQ.oz [20,21,1,30,31,32]
 refine⟨_,rfl,?_⟩;intro Y U
 refine k9 U (.move rfl .nil) fun Y U =>?_
 refine plz (ecl U Tryz.func58 rfl (mU hN7 _ _ _ _ _ Y6.1 Y6.2 (aR.into [(1,20),(2,21)] (by decide) rfl)) ?_)
 rintro e b0 ⟨b1,b4,rfl,ar⟩
 have aS:=aR.back ar [(20,1),(21,2)] (by decide);clear ar aR
 have bp:=aS.oz [20,21,1,30,31,32]
 refine⟨_,rfl,?_⟩;intro Y U
 refine k9 U (.fieldAddr (off:=4) rfl U25 rfl (s:=0) (by kernel_rfl) rfl .nil) fun Y U =>?_
 refine plz (st1 U bp 32 l3 fun b5 bq _ =>?_)
 refine k9 U (.fieldAddr (off:=5) rfl U25 rfl (s:=0) (by kernel_rfl) rfl .nil) fun Y U =>?_
 refine plz (st1 U bq 32 l3 fun b6 br _ =>?_)
 refine k9 U (.fieldAddr (off:=6) rfl U25 rfl (s:=0) (by kernel_rfl) rfl .nil) fun Y U =>?_
 refine plz (st1 U br 32 l3 fun b7 aT _ =>?_)
 refine znl (hK4 _ _ ?_)
 refine wsk fun K5 hK5 =>?_
 replace U:=U.oz [0,2,3,4,6,25]
 refine zsr fun K6 hK6 =>?_
 refine k9 U (.move rfl .nil) fun Y U =>?_
 refine plz (ecl U Tryz.func59 rfl (nY (hN:=hN8) _ _ _ _ _ Y7.1 Y7.2 (aT.into [(1,20),(2,21)] (by decide) rfl)) ?_)
 rintro e b8 ⟨b9,ca,rfl,au⟩
 have aU:=aT.back au [(20,1),(21,2)] (by decide);clear au aT
 have bg:=aU.oz [20,21,1,30,31,32]
 refine⟨_,rfl,?_⟩;intro Y U
 refine gz hK6 U (.move rfl .nil) fun Y U =>?_
 refine wp_block ?_
 refine wp_loop_ghost (fun g a w => ∃ (k:Nat) (gZ gR gP:Nat) (pr p9:Option Addr) (cr c9:Nat),k≤W.length∧g=W.length - k∧Has 86 [(0,.slice pb b.length cb),(2,.pointer (some ⟨gZ,0,none⟩)),(4,.pointer (some ⟨gR,0,none⟩)),(6,.pointer (some ⟨gP,0,none⟩)),(33,.int .u64 (W.length:Nat)),(34,.int .u64 (k:Nat))] a∧MemOk X w0 [(1,.dat (.slice pb b.length cb) (.ns .u8 b)),(20,.box gR 115 [.slice pr ((W.drop k).flatMap wrB).length cr,.int .i64 0]),(21,.dat (.slice pr ((W.drop k).flatMap wrB).length cr) (.ns .u8 ((W.drop k).flatMap wrB))),(22,.box gP 25 [.int .i64 vo,.int .i64 ch,.int .i64 cn,.int .i64 sz,.int .i64 fr,.int .i64 to,.int .i64 fl,.slice p9 ((W.take k).map wrD).length c9]),(23,.row (.slice p9 ((W.take k).map wrD).length c9) 30 2 ((W.take k).map wrD)),(29,.box gZ 25 [.int .i64 0,.int .i64 0,.int .i64 0,.int .i64 0,.int .i64 0,.int .i64 0,.int .i64 0,.slice none 0 0])] w) (W.length) ?_ ?_
 · have mz:=bg.nilR 23 30 2
   exact⟨0,_,_,_,_,_,_,_,Nat.zero_le _,rfl,U.only [0,2,4,6,33,34],mz.ren [(1,1),(20,20),(21,21),(22,32),(23,23),(29,30)] (by decide)⟩
 clear U bg
 rintro g Y cc ⟨k,gZ,gR,gP,pr,p9,cr,c9,hkl,hg,U,ah⟩
 refine la U (.lss rfl rfl .nil) fun Y U =>?_
 refine wsk fun K7 hK7 =>?_
 refine bc U 35 ?_ ?_
 ·
  intro aa U;try simp only [QQ,Qax] at aa
  have hk:k<W.length:=by have:=aa;first|omega|(simp at this;omega)
  obtain⟨⟨xs,xl⟩,hes⟩:∃ e,W[k]? = some e:=⟨_,List.getElem?_eq_getElem hk⟩
  have hit:∀ {j:Nat} {xb:Int} {xd:List Int},xl[j]? = some (xb,xd)→(0≤xb∧xb<cn)∧(xd.length≤32∧xl.length≤8):=fun h7=>nI hP hes h7
  have hx8:xl.length≤8:=oy hP hes
  have hxs9:=o7 hP hes
  have YA0:=rg hP hWb k
  obtain⟨z1,hA1,hA2⟩:=tI (rest:=(W.drop (k+1)).flatMap wrB) hes hxs9 hx8
  have YA1:=mr hA1 YA0
  have YA2:=mr hA2 YA1
  refine wct U ?_
  refine zss (hK7 _ _ ?_)
  refine wsk fun K8 hK8 =>?_
  refine wp_block ?_
  refine zsr fun K9 hK9 =>?_
  refine k9 U (.move rfl .nil) fun Y U =>?_
  refine plz (ecl U Tryz.func58 rfl (mU hA1 _ _ _ _ _ YA0.1 YA0.2 (ah.into [(1,20),(2,21)] (by decide) rfl)) ?_)
  rintro e cd ⟨ce,cf,rfl,av⟩
  have aV:=ah.back av [(20,1),(21,2)] (by decide);clear av ah
  have bs:=aV.oz [20,21,1,22,23,29]
  refine⟨_,rfl,?_⟩;intro Y U
  refine k9 U (.build rfl rJ yz rfl (by dsimp only [l9,List.set] <;> rfl) .nil) fun Y U =>?_
  refine plz (lc U bs 100 rJ rfl fun cg Y ci U bt _ _ =>?_)
  refine plz (stw U bt 100 nV fun cj aW _ =>?_)
  refine znl (hK9 _ _ ?_)
  refine wsk fun ck aX =>?_
  refine zsr fun cl aY =>?_
  refine k9 U (.move rfl .nil) fun Y U =>?_
  refine plz (ecl U Tryz.func59 rfl (nY (hN:=hA2) _ _ _ _ _ YA1.1 YA1.2 (aW.into [(1,20),(2,21)] (by decide) rfl)) ?_)
  rintro e cm ⟨co,cp,rfl,aw⟩
  have aZ:=aW.back aw [(20,1),(21,2)] (by decide);clear aw aW
  have bh:=aZ.oz [20,21,1,22,23,29,100]
  refine⟨_,rfl,?_⟩;intro Y U
  refine gz aY U (.move rfl .nil) fun Y U =>?_
  refine wp_block ?_
  refine wp_loop_ghost (fun g a w => ∃ (j:Nat) (gZ gR gP:Nat) (pr p9:Option Addr) (cr c9:Nat) (gW:Nat) (p8:Option Addr) (c8:Nat),j≤xl.length∧g=xl.length - j∧Has 86 [(0,.slice pb b.length cb),(2,.pointer (some ⟨gZ,0,none⟩)),(4,.pointer (some ⟨gR,0,none⟩)),(6,.pointer (some ⟨gP,0,none⟩)),(33,.int .u64 (W.length:Nat)),(34,.int .u64 (k:Nat)),(7,.pointer (some ⟨gW,0,none⟩)),(40,.int .u64 (xl.length:Nat)),(41,.int .u64 (j:Nat))] a∧MemOk X w0 [(1,.dat (.slice pb b.length cb) (.ns .u8 b)),(20,.box gR 115 [.slice pr ((xl.drop j).flatMap itB++(W.drop (k+1)).flatMap wrB).length cr,.int .i64 0]),(21,.dat (.slice pr ((xl.drop j).flatMap itB++(W.drop (k+1)).flatMap wrB).length cr) (.ns .u8 ((xl.drop j).flatMap itB++(W.drop (k+1)).flatMap wrB))),(22,.box gP 25 [.int .i64 vo,.int .i64 ch,.int .i64 cn,.int .i64 sz,.int .i64 fr,.int .i64 to,.int .i64 fl,.slice p9 ((W.take k).map wrD).length c9]),(23,.row (.slice p9 ((W.take k).map wrD).length c9) 30 2 ((W.take k).map wrD)),(29,.box gZ 25 [.int .i64 0,.int .i64 0,.int .i64 0,.int .i64 0,.int .i64 0,.int .i64 0,.int .i64 0,.slice none 0 0]),(24,.box gW 30 [.int .i64 xs,.slice p8 ((xl.take j).map itD).length c8]),(25,.row (.slice p8 ((xl.take j).map itD).length c8) 78 2 ((xl.take j).map itD))] w) (xl.length) ?_ ?_
  · have mz:=bh.nilR 25 78 2
    have hE3:xl.flatMap itB++((W.drop (k+1)).flatMap wrB)=((xl.drop 0).flatMap itB++(W.drop (k+1)).flatMap wrB):=by simp
    rw[hE3] at mz
    exact⟨0,_,_,_,_,_,_,_,_,_,_,Nat.zero_le _,rfl,U.only [0,2,4,6,33,34,7,40,41],mz.ren [(1,1),(20,20),(21,21),(22,22),(23,23),(29,29),(24,100),(25,25)] (by decide)⟩
  clear U bh
  rintro g Y cq ⟨j,gZ,gR,gP,pr,p9,cr,c9,gW,p8,c8,hjl,hg2,U,aJ⟩
  refine la U (.lss rfl rfl .nil) fun Y U =>?_
  refine wsk fun cs a0 =>?_
  refine bc U 42 ?_ ?_
  ·
   intro ab U;try simp only [QQ,Qax] at ab
   have hj:j<xl.length:=by have:=ab;first|omega|(simp at this;omega)
   obtain⟨⟨xb,xd⟩,hxs⟩:∃ e,xl[j]? = some e:=⟨_,List.getElem?_eq_getElem hj⟩
   have hxb:=(hit hxs).1
   have hxd:xd.length≤32:=(hit hxs).2.1
   have YB0:=tH (W:=W) (k:=k) hP hWb hes j
   obtain⟨z2,hB1,hB2⟩:=uI (rest:=(xl.drop (j+1)).flatMap itB++(W.drop (k+1)).flatMap wrB) hxs hxb (by omega) hxd
   have YB1:=mr hB1 YB0
   refine wct U ?_
   refine zss (a0 _ _ ?_)
   refine wsk fun ct a1 =>?_
   refine wp_block ?_
   have a2:=aJ.oz [1,20,21,22,23,24,25,29]
   refine region_p 11 (B:=[(24,_)]) (a2.to i1l) a2 (by kernel_rfl) (fun cu ac aK =>?_);clear a2
   refine goR ac [0,1,2,5] [1] 4 0 39 U (aK.to i1l) (.fa 1 rfl U30<|.lb hh 24 U28 rfl rfl rfl<|.move rfl<|.move rfl .nil) fun Y U =>?_
   refine so 3 ?_
   refine ecl U Tryz.func59 rfl (nY (hN:=hB1) _ _ _ _ _ YB0.1 YB0.2 (aK.into [(1,20),(2,21)] (by decide) rfl)) ?_
   rintro e cv ⟨cw,cy,rfl,ax⟩
   have a3:=aK.back ax [(20,1),(21,2)] (by decide);clear ax aK
   have ay:=a3.oz [20,21,1,22,23,24,25,29]
   refine⟨_,rfl,?_⟩;intro Y U
   refine⟨ay.to i1l,?_⟩
   refine goA ac [4] 1 47 63 U (ay.to i1l) (.conv rfl nb U3 (IntWalk.i64_in _ (by omega)) .nil) fun Y U =>?_
   refine so 6 ?_
   refine ecl U Tryz.func60 rfl (sU hB2 _ _ _ _ _ YB1.1 YB1.2 (ay.into [(1,20),(2,21)] (by decide) rfl)) ?_
   rintro e cz ⟨cA,cB,bu,bv,rfl,az⟩
   have a4:=ay.back az [(20,1),(21,2),(200,3)] (by decide);clear az ay
   have aL:=a4.oz [20,21,200,1,22,23,24,25,29]
   refine⟨_,rfl,?_⟩;intro Y U
   refine⟨aL.to i1l,?_⟩
   refine goA ac [7] 1 127 255 U (aL.to i1l) (.build rfl pz yA rfl (by dsimp only [l9,List.set] <;> rfl) .nil) fun Y U =>?_
   refine so 8 ?_
   refine lq U aL 201 (mm:=2) rfl (.cons rfl rfl (.cons (.v _) (.cons (aL.rd (i:=200) rfl) .nil)) .nil) U28 ow rfl rfl rfl rfl rfl fun cC Y cD U bi =>?_
   refine⟨bi.to i1l,?_⟩
   have bj:=bi.freezeR 201 rfl
   refine so 9 ?_
   refine lC U bj 25 rfl rfl rfl (bj.rd (i:=201) rfl) U28 ow rfl rfl (by decide) (by simp;omega) rfl fun cE cF Y cG U a5 =>?_
   refine⟨a5.to i1l,?_⟩
   refine goA ac [10] 1 1023 2047 U (a5.to i1l) (.fa 1 rfl U30 .nil) fun Y U =>?_
   refine se 11 ?_
   refine st1 U a5 24 rK fun cH bk _ =>?_
   refine wad ?_
   refine a1 _ _ ?_
   replace U:=U.oz [0,2,4,6,33,34,7,40,41]
   refine wp_region_lit ?_
   refine k9 U (.add rfl rfl (r:=((j+1:Nat):Int)) (by rw[IntWalk.u64_in _ (by omega)];omega)<|.move rfl .nil) fun Y U =>?_
   refine wpList_nil ?_
   show ∃ n',n'<_∧_
   have hE:((xl.take j).map itD)++[[D.v (.int .i64 xb),.ns .u8 xd]]=((xl.take (j+1)).map itD):=by rw[ln hxs,List.map_append];rfl
   rw[hE] at bk
   exact⟨xl.length - (j+1),by omega,j+1,_,_,_,_,_,_,_,_,_,_,by omega,rfl,U.only [0,2,4,6,33,34,7,40,41],bk.ren [(1,1),(20,20),(21,21),(22,22),(23,23),(29,29),(24,24),(25,25)] (by decide)⟩
  intro ab U;try simp only [QQ,Qax] at ab
  revert U
  obtain rfl:j=xl.length:=by have:=ab;first|omega|(simp at this;omega)
  intro U
  refine wcf U ?_
  refine wp_exit ?_
  refine aX _ _ ?_
  refine wp_region_lit ?_
  refine k9 U (.fa 7 rfl U25<|.lb aJ 22 U23 rfl rfl rfl<|.loadBR aJ (i:=24) rfl rfl U30 rfl nV (by simp) (by dsimp only [List.drop,List.take] <;> rfl) .nil) fun Y U =>?_
  have aA:=aJ.freezeR 25 rfl
  refine plz (lq U aA 200 (mm:=2) rfl (.cons rfl rfl (.cons (.v _) (.cons (aA.rd (i:=25) rfl) .nil)) .nil) U23 oM rfl rfl rfl rfl rfl fun bw Y bx U a6 =>?_)
  have aB:=a6.freezeR 200 rfl
  refine plz (lC U aB 23 rfl rfl rfl (aB.rd (i:=200) rfl) U23 oM rfl rfl (by decide) (by simp;omega) rfl fun bz bA Y bB U a7 =>?_)
  refine k9 U (.fieldAddr (off:=7) rfl U25 rfl (s:=0) (by kernel_rfl) rfl .nil) fun Y U =>?_
  refine plz (st1 U a7 22 uf fun bC aC _ =>?_)
  refine znl (hK8 _ _ ?_)
  replace U:=U.oz [0,2,4,6,33,34,7,40,41]
  refine wp_region_lit ?_
  refine k9 U (.add rfl rfl (r:=((k+1:Nat):Int)) (by rw[IntWalk.u64_in _ (by omega)];omega)<|.move rfl .nil) fun Y U =>?_
  refine wpList_nil ?_
  show ∃ n',n'<_∧_
  have hE:((W.take k).map wrD)++[[D.v (.int .i64 xs),.l 2 ((xl.take xl.length).map itD)]]=((W.take (k+1)).map wrD):=by rw[ln hes,List.map_append,List.take_length];rfl
  have hE2:((xl.drop xl.length).flatMap itB++(W.drop (k+1)).flatMap wrB)=((W.drop (k+1)).flatMap wrB):=by simp
  rw[hE2,hE] at aC
  exact⟨W.length - (k+1),by omega,k+1,_,_,_,_,_,_,_,by omega,rfl,U.only [0,2,4,6,33,34],aC.ren [(1,1),(20,20),(21,21),(22,22),(23,23),(29,29)] (by decide)⟩
 intro aa U;try simp only [QQ,Qax] at aa
 revert U
 obtain rfl:k=W.length:=by have:=aa;first|omega|(simp at this;omega)
 intro U
 have hd0:((W.drop W.length).flatMap wrB)=[]:=by simp
 rw[hd0,List.take_length] at ah
 refine wcf U ?_
 refine wp_exit ?_
 refine hK5 _ _ ?_
 refine wsk fun cI a8 =>?_
 refine zsr fun cJ a9 =>?_
 refine k9 U (.move rfl .nil) fun Y U =>?_
 refine plz (ecl U Tryz.func61 rfl (ri _ _ _ _ _ _ _ (ah.into [(1,20),(2,21)] (by decide) rfl)) ?_)
 rintro e bE ⟨rfl,ad⟩
 have aD:=ah.back ad [(20,1),(21,2)] (by decide);clear ad ah
 have ai:=aD.oz [20,21,1,22,23,29]
 refine⟨_,rfl,?_⟩;intro Y U
 refine k9 U (.neq rfl rfl<|.move rfl .nil) fun Y U =>?_
 refine bcF U 65 fun U =>?_
 refine k9 U (.moveZ rfl .nil) fun Y U =>?_
 refine stz U (ecl U Tryz.func30 rfl (yB _ _ _ _ _ _ _ (ai.into [(1,20),(2,21)] (by decide) rfl)) ?_)
 rintro e bF ⟨rfl,ae⟩
 have aE:=ai.back ae [(20,1),(21,2)] (by decide);clear ae ai
 have aF:=aE.oz [20,21,1,22,23,29]
 refine⟨_,rfl,?_⟩;intro Y U
 refine gz a9 U (.neqZ rfl rfl<|.pickF rfl rfl<|.nil) fun Y U =>?_
 refine bcF U 69 fun U =>?_
 refine wcf U ?_
 refine zss (a8 _ _ ?_)
 refine wsk fun cK ba =>?_
 replace U:=U.oz [0,2,4,6,33,34]
 refine zsr fun cL bb =>?_
 refine k9 U (.loadBR aF (i:=22) rfl rfl U25 rfl lF (by simp) (by dsimp only [List.drop,List.take] <;> rfl) .nil) fun Y U =>?_
 have aj:=aF.freezeR 23 rfl
 refine plz (ecl U Tryz.func12 rfl (oO _ vo ch cn sz fr to fl W _ _ _ _ hP (aj.into [(1,23)] (by decide) rfl)) ?_)
 rintro e bG ⟨bH,bI,rfl,ag⟩
 have aG:=aj.back ag [(23,1),(100,9)] (by decide);clear ag aj
 have bd:=aG.oz [23,100,1,20,21,22,29]
 refine⟨_,rfl,?_⟩;intro Y U
 refine gz bb U (.move rfl<|.extract rfl rfl<|.extract rfl rfl<|.assign rfl<|.assign rfl<|.nil) fun Y U =>?_
 refine zsr fun cM be =>?_
 refine k9 U (.move rfl<|.neq rfl rfl<|.move rfl .nil) fun Y U =>?_
 refine bcF U 78 fun U =>?_
 refine k9 U (.moveZ rfl<|.moveZ rfl .nil) fun Y U =>?_
 have ak:=bd.freezeN 100 rfl
 refine stz U (ecb U Tryz.func62 rfl ak (zB _ _ (mO vo ch cn sz fr to fl W) b _ (ak.rd (i:=100) rfl).any (ak.rd (i:=1) rfl).any (by rw[← hbe];exact hbb) hbb) fun Y bJ U aH =>?_)
 refine gz be U (.notZ rfl<|.pickF rfl rfl<|.nil) fun Y U =>?_
 refine bc U 83 ?_ ?_
 · intro hb _;exact absurd hb (by rw[hbe];simp)
 clear U;intro _ U
 refine wcf U ?_
 refine zss (ba _ _ ?_)
 replace U:=U.oz [0,2,4,6,33,34]
 refine zsr fun cN bf =>?_
 refine k9 U (.loadBR aH (i:=22) rfl rfl U25 rfl lF (by simp) (by dsimp only [List.drop,List.take] <;> rfl) .nil) fun Y U =>?_
 refine plz (stw U aH 29 lF fun bK aI _ =>?_)
 refine gz bf U (.assign rfl .nil) fun Y U =>?_
 refine rtd (lL (fn:=Tryz.f19) U aI (i:=29) rfl rfl rfl rfl U25 rfl lF ?_)
 exact⟨_,_,rfl,aI.ren [(1,1),(9,23)] (by decide)⟩
end
end Go.Proofs.YteglmahnkfgelaaGreat.K
