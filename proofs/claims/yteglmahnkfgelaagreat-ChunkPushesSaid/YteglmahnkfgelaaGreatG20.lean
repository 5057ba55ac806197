/- General laws of walks. -/
import Derived.Test.YteglmahnkfgelaaGreatG17
import Derived.Test.YteglmahnkfgelaaGreatG18
import Derived.Test.YteglmahnkfgelaaGreatG19
namespace Go.Proofs.YteglmahnkfgelaaGreat.K
open Go.ChangeShapes Go.WideShapes Go.ChangeAt Go.RowKit
set_option linter.unusedVariables false
set_option linter.unusedSimpArgs false
set_option maxRecDepth 100000
set_option maxHeartbeats 4000000
set_option autoImplicit true
set_option relaxedAutoImplicit true
section
def itB(x:Int×List Int):List Int:=ll [x.1]++(enc (x.2.length:Int)++x.2)
def wrB(e:Int×List (Int×List Int)):List Int:=ll [e.1]++ll [(e.2.length:Int)]++e.2.flatMap itB
def hdB(vo ch cn sz fr to fl:Int)(W:List (Int×List (Int×List Int))):List Int:=ll [vo,ch,cn,sz]++(ll [fr,to,fl]++ll [(W.length:Int)])
def mO(vo ch cn sz fr to fl:Int)(W:List (Int×List (Int×List Int))):List Int:=hdB vo ch cn sz fr to fl W++W.flatMap wrB
theorem oe(vo ch cn sz fr to fl:Int)(W:List (Int×List (Int×List Int))):(hdB vo ch cn sz fr to fl W).length≤80:=by
 have h1:=k8 [vo,ch,cn,sz];have h2:=k8 [fr,to,fl];have h3:=k8 [(W.length:Int)]
 simp at h1 h2 h3
 unfold hdB
 simp only [List.length_append]
 omega
theorem sa{xl:List (Int×List Int)}{cn:Int}(hit:∀ {j:Nat} {xb:Int} {xd:List Int},xl[j]? = some (xb,xd)→(0≤xb∧xb<cn)∧(xd.length≤32∧xl.length≤8)):∀ j,((xl.take j).flatMap itB).length≤60*j
 | 0=>by simp
 | j+1=>by
   have ih:=sa hit j
   cases he:xl[j]? with
   | none=>rw[List.take_of_length_le (by have:=List.getElem?_eq_none_iff.1 he;omega)];rw[List.take_of_length_le (by have:=List.getElem?_eq_none_iff.1 he;omega)] at ih;omega
   | some x =>
     obtain⟨xb,xd⟩:=x
     have h1:=hit he
     have h2:=k8 [xb];have h3:=(lv (xd.length:Int)).1
     simp at h2
     have h9:([(xb,xd)].flatMap itB).length≤60:=by simp [itB];omega
     rw[ln he,List.flatMap_append,List.length_append]
     omega
theorem o7{vo ch cn sz fr to fl2:Int}{W:List (Int×List (Int×List Int))}(hP:nA vo ch cn sz fr to fl2 W){k:Nat}{xs:Int}{xl:List (Int×List Int)}(hes:W[k]? = some (xs,xl)):0≤xs∧xs≤to∧to≤1099511627776:=by
 have key:∀ k,k<W.length→fr<(W.getD k w1).1:=by
   intro k
   induction k with
   | zero=>intro h;have:=(hP.2.2.2.2.2 0 h).1;simpa using this
   | succ k ih =>
     intro h
     have h1:=(hP.2.2.2.2.2 (k+1) h).1
     rw[if_neg (by omega),Nat.add_sub_cancel] at h1
     have:=ih (by omega)
     omega
 have hk:=(List.getElem?_eq_some_iff.1 hes).1
 have h1:=key k hk
 have h2:=(hP.2.2.2.2.2 k hk).2.1
 rw[show W.getD k w1=(xs,xl) by rw[List.getD,hes];rfl] at h1 h2
 have h3:=hP.2.2.1.1;have h4:=hP.2.1.2
 dsimp only at h1 h2
 omega
theorem ng{vo ch cn sz fr to fl2:Int}{W:List (Int×List (Int×List Int))}(hP:nA vo ch cn sz fr to fl2 W):∀ k,((W.take k).flatMap wrB).length≤1000*k
 | 0=>by simp
 | k+1=>by
   have ih:=ng hP k
   cases he:W[k]? with
   | none=>rw[List.take_of_length_le (by have:=List.getElem?_eq_none_iff.1 he;omega)];rw[List.take_of_length_le (by have:=List.getElem?_eq_none_iff.1 he;omega)] at ih;omega
   | some x =>
     obtain⟨xs,xl⟩:=x
     have h1:=sa (cn:=cn) (xl:=xl) (fun h7=>nI hP he h7) xl.length
     have h8:=oy hP he
     have h2:=k8 [xs];have h3:=k8 [(xl.length:Int)]
     simp at h2 h3
     rw[List.take_length] at h1
     have h9:([(xs,xl)].flatMap wrB).length≤1000:=by rw[List.flatMap_cons,List.flatMap_nil,List.append_nil,wrB];simp only [List.length_append];omega
     rw[ln he,List.flatMap_append,List.length_append]
     omega
theorem uD(b:List Int)(p:Option Addr)(c:Nat)(w0:World)(h0:Rd (fun _=>True) w0 (.slice p b.length c) (.ns .u8 b))(hl:b.length≤1000000) :
   Calls Tryz.prog 41 #[.slice p b.length c] w0 fun e w' => ∃ (p:Option Addr) (c:Nat),e=.returned (.slice p (enc (b.length:Int)++b).length c)∧w'.ownsRow w0.heap.size 5 1 (.slice p (enc (b.length:Int)++b).length c) (enc (b.length:Int)++b).length ((enc (b.length:Int)++b).map (Value.int .u8))∧Below w0.heap.size w0 w':=by
 refine mp Tryz.func41 rfl Tryz.ntmps41 fun Y U =>?_
 have m0:=MemOk.start (fun _=>False) w0
 refine la U (.assign rfl .nil) fun Y U =>?_
 refine zsr fun K0 hK0 =>?_
 refine k9 U (.move rfl<|.len rfl U22<|.conv rfl U3 nb (r:=(b.length:Int)) (IntWalk.u64_in _ (by omega)) .nil) fun Y U =>?_
 refine plz (lj U m0 20 (k:=.u64) rfl rfl tZ qS rfl rfl rfl rfl fun g8 Y w9 U m9 =>?_)
 have ab:=m9.freezeN 20 rfl
 refine plz (ecn U Tryz.func87 rfl ab 21 (uE _ [(b.length:Int)] _ ((ab.rd (i:=20) rfl).any) (by simp) (tw (by omega))) fun ad ae Y ag U ac =>?_)
 refine k9 U (.move rfl .nil) fun Y U =>?_
 refine plz (lE U ac 21 rfl rfl rfl (h0.now' ac rfl).ns_out.nums U22 lJ (by decide) (by rw[l8];have:=(lv (b.length:Int)).1;omega) rfl fun ah ai Y aj U aa =>?_)
 refine gz hK0 U (.assign rfl .nil) fun Y U =>?_
 refine rt1 U ?_
 rw[l8] at aa
 rw[l8]
 exact⟨_,_,rfl,aa.ok 21 _ rfl,aa.below⟩
theorem oO(X:Cx)(vo ch cn sz fr to fl:Int)(W:List (Int×List (Int×List Int)))(pw:Option Addr)(nw cw:Nat)(w0:World)(hP:nA vo ch cn sz fr to fl W)(m0:MemOk X w0 [(1,.dat (.slice pw nw cw) (.l 2 (W.map wrD)))] w0) :
   Calls Tryz.prog 12 #[.agg #[.int .i64 vo,.int .i64 ch,.int .i64 cn,.int .i64 sz,.int .i64 fr,.int .i64 to,.int .i64 fl,.slice pw nw cw]] w0 fun e w' => ∃ (p9:Option Addr) (c9:Nat),e=.returned (.tuple #[.slice p9 (mO vo ch cn sz fr to fl W).length c9,.int .i64 0])∧MemOk X w0 [(1,.dat (.slice pw nw cw) (.l 2 (W.map wrD))),(9,.num (.slice p9 (mO vo ch cn sz fr to fl W).length c9) 5 .u8 (mO vo ch cn sz fr to fl W))] w':=by
 refine mp Tryz.func12 rfl Tryz.ntmps12 fun Y U =>?_
 have hWl:=hP.2.2.2.2.1
 have hW:=oA hP
 have hnw:nw=W.length:=nX (m0.rd (i:=1) rfl)
 revert U
 subst hnw
 intro U
 obtain⟨⟨hv0,hv1⟩,⟨hc0,hc1⟩,⟨hn0,hn1⟩,⟨hz0,hz1⟩⟩:=hP.1
 obtain⟨ht0,ht1⟩:=hP.2.1
 obtain⟨hf0,hf1⟩:=hP.2.2.1
 obtain⟨hl0,hl1⟩:=hP.2.2.2.1
 refine zsr fun K0 hK0 =>?_
 refine plz (ly U m0 30 (cs:=[_,_,_,_,_,_,_,_]) rfl rfl rfl fun g1 Y w2 U m2 _ _ =>?_)
 refine gz hK0 U (.assign rfl<|.assign rfl<|.nil) fun Y U =>?_
 refine wsk fun K1 hK1 =>?_
 refine zsr fun K2 hK2 =>?_
 refine k9 U (.loadBR m2 (i:=30) rfl rfl U25 rfl lF (by simp) (by dsimp only [List.drop,List.take] <;> rfl) .nil) fun Y U =>?_
 refine plz (ecl U Tryz.func14 rfl (nh _ vo ch cn sz fr to fl W _ _ _ _ (by omega) hW (m2.into [(1,1)] (by decide) rfl)) ?_)
 rintro e w7 ⟨bp9,rfl,hbp,hm7⟩
 have mx7:=m2.back hm7 [(1,1)] (by decide);clear hm7 m2
 have m7:=mx7.oz [1,30]
 refine⟨_,rfl,?_⟩;intro Y U
 refine gz hK2 U (.not rfl .nil) fun Y U =>?_
 refine bc U 11 ?_ ?_
 · intro hb _;exact absurd hb (by rw[hbp.2 hP];simp)
 clear U;intro _ U
 refine wcf U ?_
 refine zss (hK1 _ _ ?_)
 refine wsk fun K3 hK3 =>?_
 have hC3:∀ (a:Act) (w:World),(∃ (gP:Nat) (p9:Option Addr) (c9:Nat),Has 78 [(1,.pointer (some ⟨gP,0,none⟩)),(4,.slice p9 (hdB vo ch cn sz fr to fl W).length c9)] a∧MemOk X w0 [(1,.dat (.slice pw W.length cw) (.l 2 (W.map wrD))),(9,.num (.slice p9 (hdB vo ch cn sz fr to fl W).length c9) 5 .u8 (hdB vo ch cn sz fr to fl W)),(11,.box gP 25 [.int .i64 vo,.int .i64 ch,.int .i64 cn,.int .i64 sz,.int .i64 fr,.int .i64 to,.int .i64 fl,.slice pw W.length cw])] w)→K3 a w:=by
   clear U m7
   rintro Y km ⟨gP,p9,c9,U,dL⟩
   refine hK3 _ _ ?_
   refine wsk fun K4 hK4 =>?_
   refine la U (.fa 7 rfl U25<|.lb dL 11 U23 rfl rfl rfl<|.len rfl U23<|.move rfl .nil) fun Y U =>?_
   refine wp_block ?_
   refine wp_loop_ghost (fun g a w => ∃ (k gP:Nat) (p9:Option Addr) (c9:Nat),k≤W.length∧g=W.length - k∧Has 78 [(1,.pointer (some ⟨gP,0,none⟩)),(4,.slice p9 (hdB vo ch cn sz fr to fl W++(W.take k).flatMap wrB).length c9),(38,.slice pw W.length cw),(39,.int .i64 W.length),(40,.int .i64 k)] a∧MemOk X w0 [(1,.dat (.slice pw W.length cw) (.l 2 (W.map wrD))),(9,.num (.slice p9 (hdB vo ch cn sz fr to fl W++(W.take k).flatMap wrB).length c9) 5 .u8 (hdB vo ch cn sz fr to fl W++(W.take k).flatMap wrB)),(11,.box gP 25 [.int .i64 vo,.int .i64 ch,.int .i64 cn,.int .i64 sz,.int .i64 fr,.int .i64 to,.int .i64 fl,.slice pw W.length cw])] w) (W.length) ?_ ?_
   · have hE:hdB vo ch cn sz fr to fl W=hdB vo ch cn sz fr to fl W++(W.take 0).flatMap wrB:=by simp
     rw[hE] at dL U
     exact⟨0,_,_,_,Nat.zero_le _,rfl,U.only [1,4,38,39,40],dL.ren [(1,1),(9,9),(11,11)] (by decide)⟩
   clear U dL
   rintro g Y kn ⟨k,gP,p9,c9,hkl,hg,U,dM⟩
   refine la U (.lss rfl rfl .nil) fun Y U =>?_
   refine wsk fun K5 hK5 =>?_
   refine bc U 41 ?_ ?_
   ·
    intro ad U;try simp only [QQ,Qax] at ad
    have hk:k<W.length:=by have:=ad;first|omega|(simp at this;omega)
    obtain⟨⟨xs,xl⟩,hes⟩:∃ e,W[k]? = some e:=⟨_,List.getElem?_eq_getElem hk⟩
    have hit:∀ {j:Nat} {xb:Int} {xd:List Int},xl[j]? = some (xb,xd)→(0≤xb∧xb<cn)∧(xd.length≤32∧xl.length≤8):=fun h7=>nI hP hes h7
    have hx8:xl.length≤8:=oy hP hes
    have hml:(xl.map itD).length=xl.length:=List.length_map _
    have hxs9:=o7 hP hes
    refine wct U ?_
    refine zss (hK5 _ _ ?_)
    refine wsk fun K6 hK6 =>?_
    refine wp_block ?_
    refine zsr fun K7 hK7 =>?_
    obtain⟨bd,be,eY,dQ,dR,dS,eG⟩:=dM.openR (i:=1) rfl (k) (r:=[.v (.int .i64 xs),.l 2 (xl.map itD)]) (mj hes) 200 rfl
    revert U
    cases dQ;clear dM dS
    rcases dR with _|⟨ae,_|⟨ab,_|_⟩⟩
    obtain rfl:=ae.v_out
    clear ae
    obtain⟨ko,kp,dT,eZ⟩:=ab.l_shape;subst dT
    intro U
    have eH:=eG.dat 201 rfl (ab.cast (fun _ h=>(lf rfl h)));clear eG ab
    refine k9 U (.c rfl (fun _ h_=>li h_ rfl rfl U23 nV (k) rfl hk)<|.loadCR eH (i:=200) rfl rfl U30 rfl nV .nil) fun Y U =>?_
    refine plz (lc U eH 202 rJ rfl fun kq Y kr U e0 _ _ =>?_)
    refine plz (stw U e0 202 nV fun ks eI _ =>?_)
    refine znl (hK7 _ _ ?_)
    refine wsk fun K8 hK8 =>?_
    have hC8:∀ (a:Act) (w:World),(∃ (gP gW:Nat) (p9:Option Addr) (c9:Nat) (px:Option Addr) (cx:Nat),Has 78 [(1,.pointer (some ⟨gP,0,none⟩)),(4,.slice p9 (hdB vo ch cn sz fr to fl W++(W.take k).flatMap wrB++(ll [xs]++ll [((xl.map itD).length:Int)])).length c9),(6,.pointer (some ⟨gW,0,none⟩)),(38,.slice (some ⟨bd,be,none⟩) W.length cw),(39,.int .i64 W.length),(40,.int .i64 k)] a∧MemOk X w0 [(1,.dat (.slice (some ⟨bd,be,none⟩) W.length cw) (.l 2 (W.map wrD))),(9,.num (.slice p9 (hdB vo ch cn sz fr to fl W++(W.take k).flatMap wrB++(ll [xs]++ll [((xl.map itD).length:Int)])).length c9) 5 .u8 (hdB vo ch cn sz fr to fl W++(W.take k).flatMap wrB++(ll [xs]++ll [((xl.map itD).length:Int)]))),(11,.box gP 25 [.int .i64 vo,.int .i64 ch,.int .i64 cn,.int .i64 sz,.int .i64 fr,.int .i64 to,.int .i64 fl,.slice (some ⟨bd,be,none⟩) W.length cw]),(13,.box gW 30 [.int .i64 xs,.slice px (xl.map itD).length cx]),(14,.dat (.slice px (xl.map itD).length cx) (.l 2 (xl.map itD)))] w)→K8 a w:=by
      clear U eI
      rintro Y kt ⟨gP,gW,p9,c9,px,cx,U,dN⟩
      refine hK8 _ _ ?_
      refine la U (.fa 1 rfl U30<|.lb dN 13 U28 rfl rfl rfl<|.len rfl U28<|.move rfl .nil) fun Y U =>?_
      refine wp_block ?_
      refine wp_loop_ghost (fun g a w => ∃ (j gP gW:Nat) (p9:Option Addr) (c9:Nat) (px:Option Addr) (cx:Nat),j≤xl.length∧g=xl.length - j∧Has 78 [(1,.pointer (some ⟨gP,0,none⟩)),(4,.slice p9 (hdB vo ch cn sz fr to fl W++(W.take k).flatMap wrB++(ll [xs]++ll [((xl.map itD).length:Int)])++(xl.take j).flatMap itB).length c9),(6,.pointer (some ⟨gW,0,none⟩)),(38,.slice (some ⟨bd,be,none⟩) W.length cw),(39,.int .i64 W.length),(40,.int .i64 k),(58,.slice px (xl.map itD).length cx),(59,.int .i64 (xl.map itD).length),(60,.int .i64 j)] a∧MemOk X w0 [(1,.dat (.slice (some ⟨bd,be,none⟩) W.length cw) (.l 2 (W.map wrD))),(9,.num (.slice p9 (hdB vo ch cn sz fr to fl W++(W.take k).flatMap wrB++(ll [xs]++ll [((xl.map itD).length:Int)])++(xl.take j).flatMap itB).length c9) 5 .u8 (hdB vo ch cn sz fr to fl W++(W.take k).flatMap wrB++(ll [xs]++ll [((xl.map itD).length:Int)])++(xl.take j).flatMap itB)),(11,.box gP 25 [.int .i64 vo,.int .i64 ch,.int .i64 cn,.int .i64 sz,.int .i64 fr,.int .i64 to,.int .i64 fl,.slice (some ⟨bd,be,none⟩) W.length cw]),(13,.box gW 30 [.int .i64 xs,.slice px (xl.map itD).length cx]),(14,.dat (.slice px (xl.map itD).length cx) (.l 2 (xl.map itD)))] w) (xl.length) ?_ ?_
      · have hE:hdB vo ch cn sz fr to fl W++(W.take k).flatMap wrB++(ll [xs]++ll [((xl.map itD).length:Int)])=hdB vo ch cn sz fr to fl W++(W.take k).flatMap wrB++(ll [xs]++ll [((xl.map itD).length:Int)])++(xl.take 0).flatMap itB:=by simp
        rw[hE] at dN U
        exact⟨0,_,_,_,_,_,_,Nat.zero_le _,rfl,U.only [1,4,6,38,39,40,58,59,60],dN.ren [(1,1),(9,9),(11,11),(13,13),(14,14)] (by decide)⟩
      clear U dN
      rintro g Y ku ⟨j,gP,gW,p9,c9,px,cx,hjl,hg2,U,dO⟩
      refine la U (.lss rfl rfl .nil) fun Y U =>?_
      refine wsk fun K9 hK9 =>?_
      refine bc U 61 ?_ ?_
      ·
       intro ag U;try simp only [QQ,Qax] at ag
       have hj:j<xl.length:=by have:=ag;first|(rw[List.length_map] at this;omega)|(simp at this;omega)
       obtain⟨⟨xb,xd⟩,hxs⟩:∃ e,xl[j]? = some e:=⟨_,List.getElem?_eq_getElem hj⟩
       have hxb:=(hit hxs).1
       have hxd:xd.length≤32:=(hit hxs).2.1
       refine wct U ?_
       refine zss (hK9 _ _ ?_)
       refine wsk fun kv dU =>?_
       refine wp_block ?_
       refine zsr fun kw dV =>?_
       obtain⟨kx,ky,e1,dW,dX,dY,eJ⟩:=dO.openR (i:=14) rfl (j) (r:=[.v (.int .i64 xb),.ns .u8 xd]) (lm hxs) 400 rfl
       revert U
       cases dW;clear dO dY
       rcases dX with _|⟨ah,_|⟨ac,_|_⟩⟩
       obtain rfl:=ah.v_out
       clear ah
       obtain⟨kz,kA,dZ,e2⟩:=ac.ns_shape;subst dZ
       intro U
       have eK:=eJ.dat 401 rfl (ac.cast (fun _ h=>(lf rfl h)));clear eJ ac
       refine k9 U (.c rfl (fun _ h_=>li h_ rfl rfl U28 lX (j) rfl (by rw[List.length_map];omega))<|.loadCR eK (i:=400) rfl rfl U78 rfl lX .nil) fun Y U =>?_
       refine plz (lc U eK 402 pz rfl fun kB Y kC U e3 _ _ =>?_)
       refine plz (stw U e3 402 lX fun kD e4 _ =>?_)
       refine znl (dV _ _ ?_)
       have d0:=e4.oz [1,9,11,13,14,400,401,402]
       refine region_p 12 (B:=[(1,_),(11,_),(13,_),(14,_),(400,_),(401,_),(402,_)]) (d0.to i7l) d0 (by kernel_rfl) (fun kE bf eL =>?_);clear d0
       refine goR bf [0,1,2,5,6] [2,6] 5 0 103 U (eL.to i7l) (.move rfl<|.fa 0 rfl U78<|.lb hh 402 U3 rfl rfl rfl<|.fa 1 rfl U78<|.lb hh 402 U22 rfl rfl rfl .nil) fun Y U =>?_
       refine so 3 ?_
       refine lj U eL 403 (k:=.i64) rfl rfl U31 ov rfl rfl rfl rfl fun kF Y kG U eM =>?_
       refine⟨eM.to i7l,?_⟩
       have eN:=eM.freezeN 403 rfl
       refine so 4 ?_
       refine ecn U Tryz.func39 rfl eN 404 (lz [xb] _ _ _ ((eN.rd (i:=403) rfl).any) (by simp) (b63 (by simp;omega))) fun kH kI Y kJ U d1 =>?_
       refine⟨d1.to i7l,?_⟩
       refine so 7 ?_
       refine ecn U Tryz.func41 rfl d1 405 (uD xd _ _ _ ((d1.rd (i:=401) rfl).any) (by omega)) fun kK kL Y kM U eO =>?_
       refine⟨eO.to i7l,?_⟩
       have e5:=eO.freezeN 404 rfl
       have d2:=e5.freezeN 405 rfl
       refine so 8 ?_
       refine lq U d2 406 (mm:=1) rfl (.cons rfl rfl (.cons (d2.rd (i:=404) rfl) .nil)<|.cons rfl rfl (.cons (d2.rd (i:=405) rfl) .nil) .nil) U59 mG rfl rfl rfl rfl rfl fun kN Y kO U eP =>?_
       refine⟨eP.to i7l,?_⟩
       have eQ:=eP.freezeR 406 rfl
       refine so 9 ?_
       refine ecn U Tryz.func38 rfl eQ 407 (lB (ls:=[ll [xb],enc (xd.length:Int)++xd]) (S:=itB (xb,xd)) ((eQ.rd (i:=406) rfl).any) (by simp) (by simp [lD];first|(have h1:=k8 [vo,ch,cn,sz];have h2:=k8 [fr,to,fl];have h3:=k8 [(W.length:Int)];simp at h1 h2 h3;omega)|(have h1:=k8 [xs];have h2:=k8 [((xl.map itD).length:Int)];simp at h1 h2;omega)|(have h1:=k8 [xb];have h2:=(lv (xd.length:Int)).1;simp at h1;omega)) (by first|(simp [hdB];done)|(simp [itB];done)|simp)) fun kP kQ Y kR U d3 =>?_
       refine⟨d3.to i7l,?_⟩
       refine so 10 ?_
       refine lE U d3 9 rfl rfl rfl (d3.numsO (i:=407) rfl) U22 lJ (by decide) (by have hz1:=ng hP k;have hz2:=k8 [xs];have hz3:=k8 [((xl.map itD).length:Int)];have hz4:=oe vo ch cn sz fr to fl W;have hz5:=sa hit j;have hz6:=k8 [xb];have hz7:=(lv (xd.length:Int)).1;simp only [List.length_cons,List.length_nil] at hz2 hz3 hz6;simp only [itB,List.length_append];omega) rfl fun kS kT Y kU U dP =>?_
       refine⟨dP.to i7l,?_⟩
       refine goA bf [11] 1 2047 4095 U (dP.to i7l) (.assign rfl .nil) fun Y U =>?_
       refine wad ?_
       refine dU _ _ ?_
       replace U:=U.oz [1,4,6,38,39,40,58,59,60]
       refine wp_region_lit ?_
       refine k9 U (.inc (j+1)<|.move rfl .nil) fun Y U =>?_
       refine wpList_nil ?_
       show ∃ n',n'<_∧_
       have hE:hdB vo ch cn sz fr to fl W++(W.take k).flatMap wrB++(ll [xs]++ll [((xl.map itD).length:Int)])++(xl.take j).flatMap itB++itB (xb,xd)=hdB vo ch cn sz fr to fl W++(W.take k).flatMap wrB++(ll [xs]++ll [((xl.map itD).length:Int)])++(xl.take (j+1)).flatMap itB:=by rw[ln hxs,List.flatMap_append];simp
       rw[hE] at dP U
       exact⟨xl.length - (j+1),by omega,j+1,_,_,_,_,_,_,by omega,rfl,U.only [1,4,6,38,39,40,58,59,60],dP.ren [(1,1),(9,9),(11,11),(13,13),(14,14)] (by decide)⟩
      intro ag U;try simp only [QQ,Qax] at ag
      revert U
      obtain rfl:j=xl.length:=by have:=ag;first|(rw[List.length_map] at this;omega)|(simp at this;omega)
      intro U
      refine wcf U ?_
      refine wp_exit ?_
      refine hK6 _ _ ?_
      refine wp_region_lit ?_
      refine k9 U (.inc (k+1)<|.move rfl .nil) fun Y U =>?_
      refine wpList_nil ?_
      show ∃ n',n'<_∧_
      have hE:hdB vo ch cn sz fr to fl W++(W.take k).flatMap wrB++(ll [xs]++ll [((xl.map itD).length:Int)])++(xl.take xl.length).flatMap itB=hdB vo ch cn sz fr to fl W++(W.take (k+1)).flatMap wrB:=by rw[List.take_length,ln hes,List.flatMap_append];simp [wrB]
      rw[hE] at dO U
      exact⟨W.length - (k+1),by omega,k+1,_,_,_,by omega,rfl,U.only [1,4,38,39,40],dO.ren [(1,1),(9,9),(11,11)] (by decide)⟩
    have d4:=eI.oz [1,9,11,200,201,202]
    refine region_p 14 (B:=[(1,_),(11,_),(200,_),(201,_),(202,_)]) (d4.to i5l) d4 (by kernel_rfl) (fun kV ai d5 =>?_);clear d4
    refine goR ai [0,1,2,5,6,7] [2,6] 6 0 231 U (d5.to i5l) (.move rfl<|.fa 0 rfl U30<|.lb hh 202 U2 rfl rfl rfl<|.fa 1 rfl U30<|.lb hh 202 U28 rfl rfl rfl<|.len rfl U28 .nil) fun Y U =>?_
    refine dtw 3 8 ?_ ?_
    ·
     refine lj U d5 203 (k:=.i64) rfl rfl U32 lS rfl rfl rfl rfl fun kW Y kX U d6 =>?_
     refine⟨fun _=>(d6.to i5l),?_⟩
     refine dtw 4 8 ?_ ?_
     ·
      have eR:=d6.freezeN 203 rfl
      refine ecn U Tryz.func40 rfl eR 204 (lM [xs] _ _ _ ((eR.rd (i:=203) rfl).any) (by simp) (b63 (by simp;omega))) fun kY kZ Y k0 U eS =>?_
      refine⟨fun _=>(eS.to i5l),?_⟩
      refine so 8 ?_
      refine lj U eS 205 (k:=.i64) rfl rfl U31 ov rfl rfl rfl rfl fun k1 Y k2 U eT =>?_
      refine⟨eT.to i5l,?_⟩
      have eU:=eT.freezeN 205 rfl
      refine so 9 ?_
      refine ecn U Tryz.func39 rfl eU 206 (lz [((xl.map itD).length:Int)] _ _ _ ((eU.rd (i:=205) rfl).any) (by simp) (b63 (by simp;omega))) fun k3 k4 Y k5 U eV =>?_
      refine⟨eV.to i5l,?_⟩
      have e6:=eV.freezeN 204 rfl
      have d7:=e6.freezeN 206 rfl
      refine so 10 ?_
      refine lq U d7 207 (mm:=1) rfl (.cons rfl rfl (.cons (d7.rd (i:=204) rfl) .nil)<|.cons rfl rfl (.cons (d7.rd (i:=206) rfl) .nil) .nil) U59 mG rfl rfl rfl rfl rfl fun k6 Y k7 U eW =>?_
      refine⟨eW.to i5l,?_⟩
      have eX:=eW.freezeR 207 rfl
      refine so 11 ?_
      refine ecn U Tryz.func38 rfl eX 208 (lB (ls:=[ll [xs],ll [((xl.map itD).length:Int)]]) (S:=(ll [xs]++ll [((xl.map itD).length:Int)])) ((eX.rd (i:=207) rfl).any) (by simp) (by simp [lD];first|(have h1:=k8 [vo,ch,cn,sz];have h2:=k8 [fr,to,fl];have h3:=k8 [(W.length:Int)];simp at h1 h2 h3;omega)|(have h1:=k8 [xs];have h2:=k8 [((xl.map itD).length:Int)];simp at h1 h2;omega)|(have h1:=k8 [xb];have h2:=(lv (xd.length:Int)).1;simp at h1;omega)) (by first|(simp [hdB];done)|(simp [itB];done)|simp)) fun e7 e8 Y e9 U aE =>?_
      refine⟨aE.to i5l,?_⟩
      refine so 12 ?_
      refine lE U aE 9 rfl rfl rfl (aE.numsO (i:=208) rfl) U22 lJ (by decide) (by have hz1:=ng hP k;have hz2:=k8 [xs];have hz3:=k8 [((xl.map itD).length:Int)];have hz4:=oe vo ch cn sz fr to fl W;simp only [List.length_cons,List.length_nil] at hz2 hz3;simp only [List.length_append];omega) rfl fun fb fc Y fd U aF =>?_
      refine⟨aF.to i5l,?_⟩
      refine goA ai [13] 1 8191 16383 U (aF.to i5l) (.assign rfl .nil) fun Y U =>?_
      refine wad ?_
      show K8 _ _
      exact hC8 _ _ ⟨_,_,_,_,_,_,U.only [1,4,6,38,39,40],aF.ren [(1,1),(9,9),(11,11),(13,202),(14,201)] (by decide)⟩
     refine lj U d6 204 (k:=.i64) rfl rfl U31 ov rfl rfl rfl rfl fun fe Y ff U bg =>?_
     refine⟨fun _=>(bg.to i5l),?_⟩
     have bh:=bg.freezeN 203 rfl
     refine so 4 ?_
     refine ecn U Tryz.func40 rfl bh 205 (lM [xs] _ _ _ ((bh.rd (i:=203) rfl).any) (by simp) (b63 (by simp;omega))) fun fg fh Y fi U bi =>?_
     refine⟨bi.to i5l,?_⟩
     have bj:=bi.freezeN 204 rfl
     refine so 9 ?_
     refine ecn U Tryz.func39 rfl bj 206 (lz [((xl.map itD).length:Int)] _ _ _ ((bj.rd (i:=204) rfl).any) (by simp) (b63 (by simp;omega))) fun fj fk Y fm U bk =>?_
     refine⟨bk.to i5l,?_⟩
     have d8:=bk.freezeN 205 rfl
     have aG:=d8.freezeN 206 rfl
     refine so 10 ?_
     refine lq U aG 207 (mm:=1) rfl (.cons rfl rfl (.cons (aG.rd (i:=205) rfl) .nil)<|.cons rfl rfl (.cons (aG.rd (i:=206) rfl) .nil) .nil) U59 mG rfl rfl rfl rfl rfl fun fo Y fp U bm =>?_
     refine⟨bm.to i5l,?_⟩
     have bn:=bm.freezeR 207 rfl
     refine so 11 ?_
     refine ecn U Tryz.func38 rfl bn 208 (lB (ls:=[ll [xs],ll [((xl.map itD).length:Int)]]) (S:=(ll [xs]++ll [((xl.map itD).length:Int)])) ((bn.rd (i:=207) rfl).any) (by simp) (by simp [lD];first|(have h1:=k8 [vo,ch,cn,sz];have h2:=k8 [fr,to,fl];have h3:=k8 [(W.length:Int)];simp at h1 h2 h3;omega)|(have h1:=k8 [xs];have h2:=k8 [((xl.map itD).length:Int)];simp at h1 h2;omega)|(have h1:=k8 [xb];have h2:=(lv (xd.length:Int)).1;simp at h1;omega)) (by first|(simp [hdB];done)|(simp [itB];done)|simp)) fun fq fs Y ft U aH =>?_
     refine⟨aH.to i5l,?_⟩
     refine so 12 ?_
     refine lE U aH 9 rfl rfl rfl (aH.numsO (i:=208) rfl) U22 lJ (by decide) (by have hz1:=ng hP k;have hz2:=k8 [xs];have hz3:=k8 [((xl.map itD).length:Int)];have hz4:=oe vo ch cn sz fr to fl W;simp only [List.length_cons,List.length_nil] at hz2 hz3;simp only [List.length_append];omega) rfl fun fu fv Y fw U aI =>?_
     refine⟨aI.to i5l,?_⟩
     refine goA ai [13] 1 8191 16383 U (aI.to i5l) (.assign rfl .nil) fun Y U =>?_
     refine wad ?_
     show K8 _ _
     exact hC8 _ _ ⟨_,_,_,_,_,_,U.only [1,4,6,38,39,40],aI.ren [(1,1),(9,9),(11,11),(13,202),(14,201)] (by decide)⟩
    refine lj U d5 203 (k:=.i64) rfl rfl U31 ov rfl rfl rfl rfl fun fx Y fy U bo =>?_
    refine⟨fun _=>(bo.to i5l),?_⟩
    refine so 3 ?_
    refine lj U bo 204 (k:=.i64) rfl rfl U32 lS rfl rfl rfl rfl fun fz Y fA U bp =>?_
    refine⟨bp.to i5l,?_⟩
    have bq:=bp.freezeN 204 rfl
    refine so 4 ?_
    refine ecn U Tryz.func40 rfl bq 205 (lM [xs] _ _ _ ((bq.rd (i:=204) rfl).any) (by simp) (b63 (by simp;omega))) fun fB fC Y fD U br =>?_
    refine⟨br.to i5l,?_⟩
    have bs:=br.freezeN 203 rfl
    refine so 9 ?_
    refine ecn U Tryz.func39 rfl bs 206 (lz [((xl.map itD).length:Int)] _ _ _ ((bs.rd (i:=203) rfl).any) (by simp) (b63 (by simp;omega))) fun fE fF Y fG U bt =>?_
    refine⟨bt.to i5l,?_⟩
    have d9:=bt.freezeN 205 rfl
    have aJ:=d9.freezeN 206 rfl
    refine so 10 ?_
    refine lq U aJ 207 (mm:=1) rfl (.cons rfl rfl (.cons (aJ.rd (i:=205) rfl) .nil)<|.cons rfl rfl (.cons (aJ.rd (i:=206) rfl) .nil) .nil) U59 mG rfl rfl rfl rfl rfl fun fH Y fI U bu =>?_
    refine⟨bu.to i5l,?_⟩
    have bv:=bu.freezeR 207 rfl
    refine so 11 ?_
    refine ecn U Tryz.func38 rfl bv 208 (lB (ls:=[ll [xs],ll [((xl.map itD).length:Int)]]) (S:=(ll [xs]++ll [((xl.map itD).length:Int)])) ((bv.rd (i:=207) rfl).any) (by simp) (by simp [lD];first|(have h1:=k8 [vo,ch,cn,sz];have h2:=k8 [fr,to,fl];have h3:=k8 [(W.length:Int)];simp at h1 h2 h3;omega)|(have h1:=k8 [xs];have h2:=k8 [((xl.map itD).length:Int)];simp at h1 h2;omega)|(have h1:=k8 [xb];have h2:=(lv (xd.length:Int)).1;simp at h1;omega)) (by first|(simp [hdB];done)|(simp [itB];done)|simp)) fun fJ fK Y fL U aK =>?_
    refine⟨aK.to i5l,?_⟩
    refine so 12 ?_
    refine lE U aK 9 rfl rfl rfl (aK.numsO (i:=208) rfl) U22 lJ (by decide) (by have hz1:=ng hP k;have hz2:=k8 [xs];have hz3:=k8 [((xl.map itD).length:Int)];have hz4:=oe vo ch cn sz fr to fl W;simp only [List.length_cons,List.length_nil] at hz2 hz3;simp only [List.length_append];omega) rfl fun fM fN Y fO U aL =>?_
    refine⟨aL.to i5l,?_⟩
    refine goA ai [13] 1 8191 16383 U (aL.to i5l) (.assign rfl .nil) fun Y U =>?_
    refine wad ?_
    show K8 _ _
    exact hC8 _ _ ⟨_,_,_,_,_,_,U.only [1,4,6,38,39,40],aL.ren [(1,1),(9,9),(11,11),(13,202),(14,201)] (by decide)⟩
   intro ad U;try simp only [QQ,Qax] at ad
   revert U
   obtain rfl:k=W.length:=by have:=ad;first|omega|(simp at this;omega)
   intro U
   refine wcf U ?_
   refine wp_exit ?_
   refine hK4 _ _ ?_
   refine la U (.move rfl<|.assign rfl<|.assign rfl .nil) fun Y U =>?_
   refine rt2 U ?_
   have hE9:hdB vo ch cn sz fr to fl W++W.flatMap wrB=mO vo ch cn sz fr to fl W:=rfl
   rw[List.take_length,hE9] at dM
   rw[List.take_length,hE9]
   exact⟨_,_,rfl,dM.ren [(1,1),(9,9)] (by decide)⟩
 have aM:=m7.oz [1,30]
 refine region_p 26 (B:=[(1,_),(30,_)]) (aM.to i2l) aM (by kernel_rfl) (fun fP aa aj =>?_);clear aM
 refine goR aa [0,1,2,3,4,5,6,7,10,11,12,13,14,15,18,19,20] [1,3,5,7,11,13,15,19] 17 0 1899775 U (aj.to i2l) (.fa 0 rfl U25<|.lb hh 30 U3 rfl rfl rfl<|.fa 1 rfl U25<|.lb hh 30 U3 rfl rfl rfl<|.fa 2 rfl U25<|.lb hh 30 U3 rfl rfl rfl<|.fa 3 rfl U25<|.lb hh 30 U3 rfl rfl rfl<|.fa 4 rfl U25<|.lb hh 30 U2 rfl rfl rfl<|.fa 5 rfl U25<|.lb hh 30 U2 rfl rfl rfl<|.fa 6 rfl U25<|.lb hh 30 U2 rfl rfl rfl<|.fa 7 rfl U25<|.lb hh 30 U23 rfl rfl rfl<|.len rfl U23 .nil) fun Y U =>?_
 refine dth 8 16 21 ?_ ?_ ?_
 ·
  refine lj U aj 31 (k:=.i64) rfl rfl U31 ov rfl rfl rfl rfl fun fQ Y fR U ak =>?_
  refine⟨fun _=>(ak.to i2l),?_⟩
  refine dth 9 16 21 ?_ ?_ ?_
  ·
   have bw:=ak.freezeN 31 rfl
   refine ecn U Tryz.func39 rfl bw 32 (lz [vo,ch,cn,sz] _ _ _ ((bw.rd (i:=31) rfl).any) (by simp) (b63 (by simp;omega))) fun fS fT Y fU U aN =>?_
   refine⟨fun _=>(aN.to i2l),?_⟩
   refine dtw 16 21 ?_ ?_
   ·
    refine lj U aN 33 (k:=.i64) rfl rfl U32 lS rfl rfl rfl rfl fun fV Y fW U aO =>?_
    refine⟨fun _=>(aO.to i2l),?_⟩
    refine dtw 17 21 ?_ ?_
    ·
     have bx:=aO.freezeN 33 rfl
     refine ecn U Tryz.func40 rfl bx 34 (lM [fr,to,fl] _ _ _ ((bx.rd (i:=33) rfl).any) (by simp) (b63 (by simp;omega))) fun fX fY Y fZ U bz =>?_
     refine⟨fun _=>(bz.to i2l),?_⟩
     refine so 21 ?_
     refine lj U bz 35 (k:=.i64) rfl rfl U31 ov rfl rfl rfl rfl fun f0 Y f1 U bA =>?_
     refine⟨bA.to i2l,?_⟩
     have bB:=bA.freezeN 35 rfl
     refine so 22 ?_
     refine ecn U Tryz.func39 rfl bB 36 (lz [(W.length:Int)] _ _ _ ((bB.rd (i:=35) rfl).any) (by simp) (b63 (by simp;omega))) fun f2 f3 Y f4 U bC =>?_
     refine⟨bC.to i2l,?_⟩
     have ea:=bC.freezeN 32 rfl
     have eb:=ea.freezeN 34 rfl
     have al:=eb.freezeN 36 rfl
     refine so 23 ?_
     refine lq U al 37 (mm:=1) rfl (.cons rfl rfl (.cons (al.rd (i:=32) rfl) .nil)<|.cons rfl rfl (.cons (al.rd (i:=34) rfl) .nil)<|.cons rfl rfl (.cons (al.rd (i:=36) rfl) .nil) .nil) U59 mG rfl rfl rfl rfl rfl fun f5 Y f6 U bE =>?_
     refine⟨bE.to i2l,?_⟩
     have bF:=bE.freezeR 37 rfl
     refine so 24 ?_
     refine ecn U Tryz.func38 rfl bF 38 (lB (ls:=[ll [vo,ch,cn,sz],ll [fr,to,fl],ll [(W.length:Int)]]) (S:=hdB vo ch cn sz fr to fl W) ((bF.rd (i:=37) rfl).any) (by simp) (by simp [lD];first|(have h1:=k8 [vo,ch,cn,sz];have h2:=k8 [fr,to,fl];have h3:=k8 [(W.length:Int)];simp at h1 h2 h3;omega)|(have h1:=k8 [xs];have h2:=k8 [((xl.map itD).length:Int)];simp at h1 h2;omega)|(have h1:=k8 [xb];have h2:=(lv (xd.length:Int)).1;simp at h1;omega)) (by first|(simp [hdB];done)|(simp [itB];done)|simp)) fun f7 f8 Y f9 U aP =>?_
     refine⟨aP.to i2l,?_⟩
     refine goA aa [25] 1 33554431 67108863 U (aP.to i2l) (.assign rfl .nil) fun Y U =>?_
     refine wad ?_
     show K3 _ _
     exact hC3 _ _ ⟨_,_,_,U.only [1,4],aP.ren [(1,1),(9,38),(11,30)] (by decide)⟩
    refine lj U aO 34 (k:=.i64) rfl rfl U31 ov rfl rfl rfl rfl fun ga Y gb U bG =>?_
    refine⟨fun _=>(bG.to i2l),?_⟩
    have bH:=bG.freezeN 33 rfl
    refine so 17 ?_
    refine ecn U Tryz.func40 rfl bH 35 (lM [fr,to,fl] _ _ _ ((bH.rd (i:=33) rfl).any) (by simp) (b63 (by simp;omega))) fun gc gf Y gg U bI =>?_
    refine⟨bI.to i2l,?_⟩
    have bJ:=bI.freezeN 34 rfl
    refine so 22 ?_
    refine ecn U Tryz.func39 rfl bJ 36 (lz [(W.length:Int)] _ _ _ ((bJ.rd (i:=34) rfl).any) (by simp) (b63 (by simp;omega))) fun gh gi Y gj U bK =>?_
    refine⟨bK.to i2l,?_⟩
    have ec:=bK.freezeN 32 rfl
    have ed:=ec.freezeN 35 rfl
    have ao:=ed.freezeN 36 rfl
    refine so 23 ?_
    refine lq U ao 37 (mm:=1) rfl (.cons rfl rfl (.cons (ao.rd (i:=32) rfl) .nil)<|.cons rfl rfl (.cons (ao.rd (i:=35) rfl) .nil)<|.cons rfl rfl (.cons (ao.rd (i:=36) rfl) .nil) .nil) U59 mG rfl rfl rfl rfl rfl fun gk Y gl U bL =>?_
    refine⟨bL.to i2l,?_⟩
    have bM:=bL.freezeR 37 rfl
    refine so 24 ?_
    refine ecn U Tryz.func38 rfl bM 38 (lB (ls:=[ll [vo,ch,cn,sz],ll [fr,to,fl],ll [(W.length:Int)]]) (S:=hdB vo ch cn sz fr to fl W) ((bM.rd (i:=37) rfl).any) (by simp) (by simp [lD];first|(have h1:=k8 [vo,ch,cn,sz];have h2:=k8 [fr,to,fl];have h3:=k8 [(W.length:Int)];simp at h1 h2 h3;omega)|(have h1:=k8 [xs];have h2:=k8 [((xl.map itD).length:Int)];simp at h1 h2;omega)|(have h1:=k8 [xb];have h2:=(lv (xd.length:Int)).1;simp at h1;omega)) (by first|(simp [hdB];done)|(simp [itB];done)|simp)) fun gm gn Y gp U aQ =>?_
    refine⟨aQ.to i2l,?_⟩
    refine goA aa [25] 1 33554431 67108863 U (aQ.to i2l) (.assign rfl .nil) fun Y U =>?_
    refine wad ?_
    show K3 _ _
    exact hC3 _ _ ⟨_,_,_,U.only [1,4],aQ.ren [(1,1),(9,38),(11,30)] (by decide)⟩
   refine lj U aN 33 (k:=.i64) rfl rfl U31 ov rfl rfl rfl rfl fun gq Y gr U bN =>?_
   refine⟨fun _=>(bN.to i2l),?_⟩
   refine so 16 ?_
   refine lj U bN 34 (k:=.i64) rfl rfl U32 lS rfl rfl rfl rfl fun gs Y gu U bO =>?_
   refine⟨bO.to i2l,?_⟩
   have bP:=bO.freezeN 34 rfl
   refine so 17 ?_
   refine ecn U Tryz.func40 rfl bP 35 (lM [fr,to,fl] _ _ _ ((bP.rd (i:=34) rfl).any) (by simp) (b63 (by simp;omega))) fun gv gw Y gx U bQ =>?_
   refine⟨bQ.to i2l,?_⟩
   have bR:=bQ.freezeN 33 rfl
   refine so 22 ?_
   refine ecn U Tryz.func39 rfl bR 36 (lz [(W.length:Int)] _ _ _ ((bR.rd (i:=33) rfl).any) (by simp) (b63 (by simp;omega))) fun gy gA Y gB U bS =>?_
   refine⟨bS.to i2l,?_⟩
   have ee:=bS.freezeN 32 rfl
   have ef:=ee.freezeN 35 rfl
   have ap:=ef.freezeN 36 rfl
   refine so 23 ?_
   refine lq U ap 37 (mm:=1) rfl (.cons rfl rfl (.cons (ap.rd (i:=32) rfl) .nil)<|.cons rfl rfl (.cons (ap.rd (i:=35) rfl) .nil)<|.cons rfl rfl (.cons (ap.rd (i:=36) rfl) .nil) .nil) U59 mG rfl rfl rfl rfl rfl fun gC Y gD U bT =>?_
   refine⟨bT.to i2l,?_⟩
   have bU:=bT.freezeR 37 rfl
   refine so 24 ?_
   refine ecn U Tryz.func38 rfl bU 38 (lB (ls:=[ll [vo,ch,cn,sz],ll [fr,to,fl],ll [(W.length:Int)]]) (S:=hdB vo ch cn sz fr to fl W) ((bU.rd (i:=37) rfl).any) (by simp) (by simp [lD];first|(have h1:=k8 [vo,ch,cn,sz];have h2:=k8 [fr,to,fl];have h3:=k8 [(W.length:Int)];simp at h1 h2 h3;omega)|(have h1:=k8 [xs];have h2:=k8 [((xl.map itD).length:Int)];simp at h1 h2;omega)|(have h1:=k8 [xb];have h2:=(lv (xd.length:Int)).1;simp at h1;omega)) (by first|(simp [hdB];done)|(simp [itB];done)|simp)) fun gE gF Y gG U aR =>?_
   refine⟨aR.to i2l,?_⟩
   refine goA aa [25] 1 33554431 67108863 U (aR.to i2l) (.assign rfl .nil) fun Y U =>?_
   refine wad ?_
   show K3 _ _
   exact hC3 _ _ ⟨_,_,_,U.only [1,4],aR.ren [(1,1),(9,38),(11,30)] (by decide)⟩
  ·
   refine lj U ak 32 (k:=.i64) rfl rfl U32 lS rfl rfl rfl rfl fun gH Y gI U aS =>?_
   refine⟨fun _=>(aS.to i2l),?_⟩
   refine dtw 9 21 ?_ ?_
   ·
    have bV:=aS.freezeN 31 rfl
    refine ecn U Tryz.func39 rfl bV 33 (lz [vo,ch,cn,sz] _ _ _ ((bV.rd (i:=31) rfl).any) (by simp) (b63 (by simp;omega))) fun gJ gK Y gL U aT =>?_
    refine⟨fun _=>(aT.to i2l),?_⟩
    refine dtw 17 21 ?_ ?_
    ·
     have bW:=aT.freezeN 32 rfl
     refine ecn U Tryz.func40 rfl bW 34 (lM [fr,to,fl] _ _ _ ((bW.rd (i:=32) rfl).any) (by simp) (b63 (by simp;omega))) fun gM gN Y gO U bX =>?_
     refine⟨fun _=>(bX.to i2l),?_⟩
     refine so 21 ?_
     refine lj U bX 35 (k:=.i64) rfl rfl U31 ov rfl rfl rfl rfl fun gQ Y gR U bY =>?_
     refine⟨bY.to i2l,?_⟩
     have bZ:=bY.freezeN 35 rfl
     refine so 22 ?_
     refine ecn U Tryz.func39 rfl bZ 36 (lz [(W.length:Int)] _ _ _ ((bZ.rd (i:=35) rfl).any) (by simp) (b63 (by simp;omega))) fun gS gT Y gU U b0 =>?_
     refine⟨b0.to i2l,?_⟩
     have eg:=b0.freezeN 33 rfl
     have eh:=eg.freezeN 34 rfl
     have aq:=eh.freezeN 36 rfl
     refine so 23 ?_
     refine lq U aq 37 (mm:=1) rfl (.cons rfl rfl (.cons (aq.rd (i:=33) rfl) .nil)<|.cons rfl rfl (.cons (aq.rd (i:=34) rfl) .nil)<|.cons rfl rfl (.cons (aq.rd (i:=36) rfl) .nil) .nil) U59 mG rfl rfl rfl rfl rfl fun gV Y gX U b1 =>?_
     refine⟨b1.to i2l,?_⟩
     have b4:=b1.freezeR 37 rfl
     refine so 24 ?_
     refine ecn U Tryz.func38 rfl b4 38 (lB (ls:=[ll [vo,ch,cn,sz],ll [fr,to,fl],ll [(W.length:Int)]]) (S:=hdB vo ch cn sz fr to fl W) ((b4.rd (i:=37) rfl).any) (by simp) (by simp [lD];first|(have h1:=k8 [vo,ch,cn,sz];have h2:=k8 [fr,to,fl];have h3:=k8 [(W.length:Int)];simp at h1 h2 h3;omega)|(have h1:=k8 [xs];have h2:=k8 [((xl.map itD).length:Int)];simp at h1 h2;omega)|(have h1:=k8 [xb];have h2:=(lv (xd.length:Int)).1;simp at h1;omega)) (by first|(simp [hdB];done)|(simp [itB];done)|simp)) fun gY gZ Y g0 U aU =>?_
     refine⟨aU.to i2l,?_⟩
     refine goA aa [25] 1 33554431 67108863 U (aU.to i2l) (.assign rfl .nil) fun Y U =>?_
     refine wad ?_
     show K3 _ _
     exact hC3 _ _ ⟨_,_,_,U.only [1,4],aU.ren [(1,1),(9,38),(11,30)] (by decide)⟩
    refine lj U aT 34 (k:=.i64) rfl rfl U31 ov rfl rfl rfl rfl fun g2 Y g3 U b5 =>?_
    refine⟨fun _=>(b5.to i2l),?_⟩
    have b6:=b5.freezeN 32 rfl
    refine so 17 ?_
    refine ecn U Tryz.func40 rfl b6 35 (lM [fr,to,fl] _ _ _ ((b6.rd (i:=32) rfl).any) (by simp) (b63 (by simp;omega))) fun g4 g5 Y g6 U b7 =>?_
    refine⟨b7.to i2l,?_⟩
    have b8:=b7.freezeN 34 rfl
    refine so 22 ?_
    refine ecn U Tryz.func39 rfl b8 36 (lz [(W.length:Int)] _ _ _ ((b8.rd (i:=34) rfl).any) (by simp) (b63 (by simp;omega))) fun g7 g8 Y g9 U b9 =>?_
    refine⟨b9.to i2l,?_⟩
    have ei:=b9.freezeN 33 rfl
    have ej:=ei.freezeN 35 rfl
    have ar:=ej.freezeN 36 rfl
    refine so 23 ?_
    refine lq U ar 37 (mm:=1) rfl (.cons rfl rfl (.cons (ar.rd (i:=33) rfl) .nil)<|.cons rfl rfl (.cons (ar.rd (i:=35) rfl) .nil)<|.cons rfl rfl (.cons (ar.rd (i:=36) rfl) .nil) .nil) U59 mG rfl rfl rfl rfl rfl fun ha Y hc U ca =>?_
    refine⟨ca.to i2l,?_⟩
    have cb:=ca.freezeR 37 rfl
    refine so 24 ?_
    refine ecn U Tryz.func38 rfl cb 38 (lB (ls:=[ll [vo,ch,cn,sz],ll [fr,to,fl],ll [(W.length:Int)]]) (S:=hdB vo ch cn sz fr to fl W) ((cb.rd (i:=37) rfl).any) (by simp) (by simp [lD];first|(have h1:=k8 [vo,ch,cn,sz];have h2:=k8 [fr,to,fl];have h3:=k8 [(W.length:Int)];simp at h1 h2 h3;omega)|(have h1:=k8 [xs];have h2:=k8 [((xl.map itD).length:Int)];simp at h1 h2;omega)|(have h1:=k8 [xb];have h2:=(lv (xd.length:Int)).1;simp at h1;omega)) (by first|(simp [hdB];done)|(simp [itB];done)|simp)) fun hd hf Y hl U aV =>?_
    refine⟨aV.to i2l,?_⟩
    refine goA aa [25] 1 33554431 67108863 U (aV.to i2l) (.assign rfl .nil) fun Y U =>?_
    refine wad ?_
    show K3 _ _
    exact hC3 _ _ ⟨_,_,_,U.only [1,4],aV.ren [(1,1),(9,38),(11,30)] (by decide)⟩
   refine lj U aS 33 (k:=.i64) rfl rfl U31 ov rfl rfl rfl rfl fun hm Y hn U cc =>?_
   refine⟨fun _=>(cc.to i2l),?_⟩
   have cd:=cc.freezeN 31 rfl
   refine so 9 ?_
   refine ecn U Tryz.func39 rfl cd 34 (lz [vo,ch,cn,sz] _ _ _ ((cd.rd (i:=31) rfl).any) (by simp) (b63 (by simp;omega))) fun ho hp Y hq U ce =>?_
   refine⟨ce.to i2l,?_⟩
   have cf:=ce.freezeN 32 rfl
   refine so 17 ?_
   refine ecn U Tryz.func40 rfl cf 35 (lM [fr,to,fl] _ _ _ ((cf.rd (i:=32) rfl).any) (by simp) (b63 (by simp;omega))) fun hr hs Y ht U cg =>?_
   refine⟨cg.to i2l,?_⟩
   have ci:=cg.freezeN 33 rfl
   refine so 22 ?_
   refine ecn U Tryz.func39 rfl ci 36 (lz [(W.length:Int)] _ _ _ ((ci.rd (i:=33) rfl).any) (by simp) (b63 (by simp;omega))) fun hu hv Y hw U cj =>?_
   refine⟨cj.to i2l,?_⟩
   have ek:=cj.freezeN 34 rfl
   have el:=ek.freezeN 35 rfl
   have au:=el.freezeN 36 rfl
   refine so 23 ?_
   refine lq U au 37 (mm:=1) rfl (.cons rfl rfl (.cons (au.rd (i:=34) rfl) .nil)<|.cons rfl rfl (.cons (au.rd (i:=35) rfl) .nil)<|.cons rfl rfl (.cons (au.rd (i:=36) rfl) .nil) .nil) U59 mG rfl rfl rfl rfl rfl fun hx Y hy U ck =>?_
   refine⟨ck.to i2l,?_⟩
   have cl:=ck.freezeR 37 rfl
   refine so 24 ?_
   refine ecn U Tryz.func38 rfl cl 38 (lB (ls:=[ll [vo,ch,cn,sz],ll [fr,to,fl],ll [(W.length:Int)]]) (S:=hdB vo ch cn sz fr to fl W) ((cl.rd (i:=37) rfl).any) (by simp) (by simp [lD];first|(have h1:=k8 [vo,ch,cn,sz];have h2:=k8 [fr,to,fl];have h3:=k8 [(W.length:Int)];simp at h1 h2 h3;omega)|(have h1:=k8 [xs];have h2:=k8 [((xl.map itD).length:Int)];simp at h1 h2;omega)|(have h1:=k8 [xb];have h2:=(lv (xd.length:Int)).1;simp at h1;omega)) (by first|(simp [hdB];done)|(simp [itB];done)|simp)) fun hz hA Y hB U aW =>?_
   refine⟨aW.to i2l,?_⟩
   refine goA aa [25] 1 33554431 67108863 U (aW.to i2l) (.assign rfl .nil) fun Y U =>?_
   refine wad ?_
   show K3 _ _
   exact hC3 _ _ ⟨_,_,_,U.only [1,4],aW.ren [(1,1),(9,38),(11,30)] (by decide)⟩
  refine lj U ak 32 (k:=.i64) rfl rfl U31 ov rfl rfl rfl rfl fun hC Y hF U aX =>?_
  refine⟨fun _=>(aX.to i2l),?_⟩
  refine dtw 9 16 ?_ ?_
  ·
   have cm:=aX.freezeN 31 rfl
   refine ecn U Tryz.func39 rfl cm 33 (lz [vo,ch,cn,sz] _ _ _ ((cm.rd (i:=31) rfl).any) (by simp) (b63 (by simp;omega))) fun hG hH Y hI U co =>?_
   refine⟨fun _=>(co.to i2l),?_⟩
   refine so 16 ?_
   refine lj U co 34 (k:=.i64) rfl rfl U32 lS rfl rfl rfl rfl fun hJ Y hK U cp =>?_
   refine⟨cp.to i2l,?_⟩
   have cq:=cp.freezeN 34 rfl
   refine so 17 ?_
   refine ecn U Tryz.func40 rfl cq 35 (lM [fr,to,fl] _ _ _ ((cq.rd (i:=34) rfl).any) (by simp) (b63 (by simp;omega))) fun hL hM Y hN U cr =>?_
   refine⟨cr.to i2l,?_⟩
   have ct:=cr.freezeN 32 rfl
   refine so 22 ?_
   refine ecn U Tryz.func39 rfl ct 36 (lz [(W.length:Int)] _ _ _ ((ct.rd (i:=32) rfl).any) (by simp) (b63 (by simp;omega))) fun hO hQ Y hR U cu =>?_
   refine⟨cu.to i2l,?_⟩
   have em:=cu.freezeN 33 rfl
   have en:=em.freezeN 35 rfl
   have av:=en.freezeN 36 rfl
   refine so 23 ?_
   refine lq U av 37 (mm:=1) rfl (.cons rfl rfl (.cons (av.rd (i:=33) rfl) .nil)<|.cons rfl rfl (.cons (av.rd (i:=35) rfl) .nil)<|.cons rfl rfl (.cons (av.rd (i:=36) rfl) .nil) .nil) U59 mG rfl rfl rfl rfl rfl fun hS Y hT U cv =>?_
   refine⟨cv.to i2l,?_⟩
   have cy:=cv.freezeR 37 rfl
   refine so 24 ?_
   refine ecn U Tryz.func38 rfl cy 38 (lB (ls:=[ll [vo,ch,cn,sz],ll [fr,to,fl],ll [(W.length:Int)]]) (S:=hdB vo ch cn sz fr to fl W) ((cy.rd (i:=37) rfl).any) (by simp) (by simp [lD];first|(have h1:=k8 [vo,ch,cn,sz];have h2:=k8 [fr,to,fl];have h3:=k8 [(W.length:Int)];simp at h1 h2 h3;omega)|(have h1:=k8 [xs];have h2:=k8 [((xl.map itD).length:Int)];simp at h1 h2;omega)|(have h1:=k8 [xb];have h2:=(lv (xd.length:Int)).1;simp at h1;omega)) (by first|(simp [hdB];done)|(simp [itB];done)|simp)) fun hU hV Y hX U aY =>?_
   refine⟨aY.to i2l,?_⟩
   refine goA aa [25] 1 33554431 67108863 U (aY.to i2l) (.assign rfl .nil) fun Y U =>?_
   refine wad ?_
   show K3 _ _
   exact hC3 _ _ ⟨_,_,_,U.only [1,4],aY.ren [(1,1),(9,38),(11,30)] (by decide)⟩
  refine lj U aX 33 (k:=.i64) rfl rfl U32 lS rfl rfl rfl rfl fun hY Y hZ U cz =>?_
  refine⟨fun _=>(cz.to i2l),?_⟩
  have cA:=cz.freezeN 31 rfl
  refine so 9 ?_
  refine ecn U Tryz.func39 rfl cA 34 (lz [vo,ch,cn,sz] _ _ _ ((cA.rd (i:=31) rfl).any) (by simp) (b63 (by simp;omega))) fun h0 h4 Y h5 U cB =>?_
  refine⟨cB.to i2l,?_⟩
  have cC:=cB.freezeN 33 rfl
  refine so 17 ?_
  refine ecn U Tryz.func40 rfl cC 35 (lM [fr,to,fl] _ _ _ ((cC.rd (i:=33) rfl).any) (by simp) (b63 (by simp;omega))) fun h6 h8 Y h9 U cD =>?_
  refine⟨cD.to i2l,?_⟩
  have cE:=cD.freezeN 32 rfl
  refine so 22 ?_
  refine ecn U Tryz.func39 rfl cE 36 (lz [(W.length:Int)] _ _ _ ((cE.rd (i:=32) rfl).any) (by simp) (b63 (by simp;omega))) fun ia ib Y ic U cF =>?_
  refine⟨cF.to i2l,?_⟩
  have eo:=cF.freezeN 34 rfl
  have ep:=eo.freezeN 35 rfl
  have aw:=ep.freezeN 36 rfl
  refine so 23 ?_
  refine lq U aw 37 (mm:=1) rfl (.cons rfl rfl (.cons (aw.rd (i:=34) rfl) .nil)<|.cons rfl rfl (.cons (aw.rd (i:=35) rfl) .nil)<|.cons rfl rfl (.cons (aw.rd (i:=36) rfl) .nil) .nil) U59 mG rfl rfl rfl rfl rfl fun ie Y ig U cG =>?_
  refine⟨cG.to i2l,?_⟩
  have cH:=cG.freezeR 37 rfl
  refine so 24 ?_
  refine ecn U Tryz.func38 rfl cH 38 (lB (ls:=[ll [vo,ch,cn,sz],ll [fr,to,fl],ll [(W.length:Int)]]) (S:=hdB vo ch cn sz fr to fl W) ((cH.rd (i:=37) rfl).any) (by simp) (by simp [lD];first|(have h1:=k8 [vo,ch,cn,sz];have h2:=k8 [fr,to,fl];have h3:=k8 [(W.length:Int)];simp at h1 h2 h3;omega)|(have h1:=k8 [xs];have h2:=k8 [((xl.map itD).length:Int)];simp at h1 h2;omega)|(have h1:=k8 [xb];have h2:=(lv (xd.length:Int)).1;simp at h1;omega)) (by first|(simp [hdB];done)|(simp [itB];done)|simp)) fun ih ii Y ij U aZ =>?_
  refine⟨aZ.to i2l,?_⟩
  refine goA aa [25] 1 33554431 67108863 U (aZ.to i2l) (.assign rfl .nil) fun Y U =>?_
  refine wad ?_
  show K3 _ _
  exact hC3 _ _ ⟨_,_,_,U.only [1,4],aZ.ren [(1,1),(9,38),(11,30)] (by decide)⟩
 ·
  refine lj U aj 31 (k:=.i64) rfl rfl U32 lS rfl rfl rfl rfl fun ik Y im U a0 =>?_
  refine⟨fun _=>(a0.to i2l),?_⟩
  refine dtw 8 21 ?_ ?_
  ·
   refine lj U a0 32 (k:=.i64) rfl rfl U31 ov rfl rfl rfl rfl fun io Y ip U a1 =>?_
   refine⟨fun _=>(a1.to i2l),?_⟩
   refine dtw 9 21 ?_ ?_
   ·
    have cI:=a1.freezeN 32 rfl
    refine ecn U Tryz.func39 rfl cI 33 (lz [vo,ch,cn,sz] _ _ _ ((cI.rd (i:=32) rfl).any) (by simp) (b63 (by simp;omega))) fun iq ir Y iu U a2 =>?_
    refine⟨fun _=>(a2.to i2l),?_⟩
    refine dtw 17 21 ?_ ?_
    ·
     have cJ:=a2.freezeN 31 rfl
     refine ecn U Tryz.func40 rfl cJ 34 (lM [fr,to,fl] _ _ _ ((cJ.rd (i:=31) rfl).any) (by simp) (b63 (by simp;omega))) fun iv iw Y ix U cK =>?_
     refine⟨fun _=>(cK.to i2l),?_⟩
     refine so 21 ?_
     refine lj U cK 35 (k:=.i64) rfl rfl U31 ov rfl rfl rfl rfl fun iy Y iz U cL =>?_
     refine⟨cL.to i2l,?_⟩
     have cM:=cL.freezeN 35 rfl
     refine so 22 ?_
     refine ecn U Tryz.func39 rfl cM 36 (lz [(W.length:Int)] _ _ _ ((cM.rd (i:=35) rfl).any) (by simp) (b63 (by simp;omega))) fun iA iB Y iC U cN =>?_
     refine⟨cN.to i2l,?_⟩
     have er:=cN.freezeN 33 rfl
     have es:=er.freezeN 34 rfl
     have ax:=es.freezeN 36 rfl
     refine so 23 ?_
     refine lq U ax 37 (mm:=1) rfl (.cons rfl rfl (.cons (ax.rd (i:=33) rfl) .nil)<|.cons rfl rfl (.cons (ax.rd (i:=34) rfl) .nil)<|.cons rfl rfl (.cons (ax.rd (i:=36) rfl) .nil) .nil) U59 mG rfl rfl rfl rfl rfl fun iD Y iE U cO =>?_
     refine⟨cO.to i2l,?_⟩
     have cP:=cO.freezeR 37 rfl
     refine so 24 ?_
     refine ecn U Tryz.func38 rfl cP 38 (lB (ls:=[ll [vo,ch,cn,sz],ll [fr,to,fl],ll [(W.length:Int)]]) (S:=hdB vo ch cn sz fr to fl W) ((cP.rd (i:=37) rfl).any) (by simp) (by simp [lD];first|(have h1:=k8 [vo,ch,cn,sz];have h2:=k8 [fr,to,fl];have h3:=k8 [(W.length:Int)];simp at h1 h2 h3;omega)|(have h1:=k8 [xs];have h2:=k8 [((xl.map itD).length:Int)];simp at h1 h2;omega)|(have h1:=k8 [xb];have h2:=(lv (xd.length:Int)).1;simp at h1;omega)) (by first|(simp [hdB];done)|(simp [itB];done)|simp)) fun iF iG Y iH U a3 =>?_
     refine⟨a3.to i2l,?_⟩
     refine goA aa [25] 1 33554431 67108863 U (a3.to i2l) (.assign rfl .nil) fun Y U =>?_
     refine wad ?_
     show K3 _ _
     exact hC3 _ _ ⟨_,_,_,U.only [1,4],a3.ren [(1,1),(9,38),(11,30)] (by decide)⟩
    refine lj U a2 34 (k:=.i64) rfl rfl U31 ov rfl rfl rfl rfl fun iI Y iJ U cQ =>?_
    refine⟨fun _=>(cQ.to i2l),?_⟩
    have cR:=cQ.freezeN 31 rfl
    refine so 17 ?_
    refine ecn U Tryz.func40 rfl cR 35 (lM [fr,to,fl] _ _ _ ((cR.rd (i:=31) rfl).any) (by simp) (b63 (by simp;omega))) fun iK iL Y iM U cS =>?_
    refine⟨cS.to i2l,?_⟩
    have cT:=cS.freezeN 34 rfl
    refine so 22 ?_
    refine ecn U Tryz.func39 rfl cT 36 (lz [(W.length:Int)] _ _ _ ((cT.rd (i:=34) rfl).any) (by simp) (b63 (by simp;omega))) fun iN iO Y iP U cU =>?_
    refine⟨cU.to i2l,?_⟩
    have et:=cU.freezeN 33 rfl
    have eu:=et.freezeN 35 rfl
    have ay:=eu.freezeN 36 rfl
    refine so 23 ?_
    refine lq U ay 37 (mm:=1) rfl (.cons rfl rfl (.cons (ay.rd (i:=33) rfl) .nil)<|.cons rfl rfl (.cons (ay.rd (i:=35) rfl) .nil)<|.cons rfl rfl (.cons (ay.rd (i:=36) rfl) .nil) .nil) U59 mG rfl rfl rfl rfl rfl fun iQ Y iR U cV =>?_
    refine⟨cV.to i2l,?_⟩
    have cW:=cV.freezeR 37 rfl
    refine so 24 ?_
    refine ecn U Tryz.func38 rfl cW 38 (lB (ls:=[ll [vo,ch,cn,sz],ll [fr,to,fl],ll [(W.length:Int)]]) (S:=hdB vo ch cn sz fr to fl W) ((cW.rd (i:=37) rfl).any) (by simp) (by simp [lD];first|(have h1:=k8 [vo,ch,cn,sz];have h2:=k8 [fr,to,fl];have h3:=k8 [(W.length:Int)];simp at h1 h2 h3;omega)|(have h1:=k8 [xs];have h2:=k8 [((xl.map itD).length:Int)];simp at h1 h2;omega)|(have h1:=k8 [xb];have h2:=(lv (xd.length:Int)).1;simp at h1;omega)) (by first|(simp [hdB];done)|(simp [itB];done)|simp)) fun iS iT Y iU U a4 =>?_
    refine⟨a4.to i2l,?_⟩
    refine goA aa [25] 1 33554431 67108863 U (a4.to i2l) (.assign rfl .nil) fun Y U =>?_
    refine wad ?_
    show K3 _ _
    exact hC3 _ _ ⟨_,_,_,U.only [1,4],a4.ren [(1,1),(9,38),(11,30)] (by decide)⟩
   refine lj U a1 33 (k:=.i64) rfl rfl U31 ov rfl rfl rfl rfl fun iV Y iW U cX =>?_
   refine⟨fun _=>(cX.to i2l),?_⟩
   have cY:=cX.freezeN 32 rfl
   refine so 9 ?_
   refine ecn U Tryz.func39 rfl cY 34 (lz [vo,ch,cn,sz] _ _ _ ((cY.rd (i:=32) rfl).any) (by simp) (b63 (by simp;omega))) fun iX iY Y iZ U cZ =>?_
   refine⟨cZ.to i2l,?_⟩
   have c0:=cZ.freezeN 31 rfl
   refine so 17 ?_
   refine ecn U Tryz.func40 rfl c0 35 (lM [fr,to,fl] _ _ _ ((c0.rd (i:=31) rfl).any) (by simp) (b63 (by simp;omega))) fun i1 i2 Y i3 U c1 =>?_
   refine⟨c1.to i2l,?_⟩
   have c2:=c1.freezeN 33 rfl
   refine so 22 ?_
   refine ecn U Tryz.func39 rfl c2 36 (lz [(W.length:Int)] _ _ _ ((c2.rd (i:=33) rfl).any) (by simp) (b63 (by simp;omega))) fun i4 i5 Y i6 U c3 =>?_
   refine⟨c3.to i2l,?_⟩
   have ew:=c3.freezeN 34 rfl
   have ex:=ew.freezeN 35 rfl
   have az:=ex.freezeN 36 rfl
   refine so 23 ?_
   refine lq U az 37 (mm:=1) rfl (.cons rfl rfl (.cons (az.rd (i:=34) rfl) .nil)<|.cons rfl rfl (.cons (az.rd (i:=35) rfl) .nil)<|.cons rfl rfl (.cons (az.rd (i:=36) rfl) .nil) .nil) U59 mG rfl rfl rfl rfl rfl fun i7 Y i8 U c4 =>?_
   refine⟨c4.to i2l,?_⟩
   have c5:=c4.freezeR 37 rfl
   refine so 24 ?_
   refine ecn U Tryz.func38 rfl c5 38 (lB (ls:=[ll [vo,ch,cn,sz],ll [fr,to,fl],ll [(W.length:Int)]]) (S:=hdB vo ch cn sz fr to fl W) ((c5.rd (i:=37) rfl).any) (by simp) (by simp [lD];first|(have h1:=k8 [vo,ch,cn,sz];have h2:=k8 [fr,to,fl];have h3:=k8 [(W.length:Int)];simp at h1 h2 h3;omega)|(have h1:=k8 [xs];have h2:=k8 [((xl.map itD).length:Int)];simp at h1 h2;omega)|(have h1:=k8 [xb];have h2:=(lv (xd.length:Int)).1;simp at h1;omega)) (by first|(simp [hdB];done)|(simp [itB];done)|simp)) fun i9 ja Y jb U a5 =>?_
   refine⟨a5.to i2l,?_⟩
   refine goA aa [25] 1 33554431 67108863 U (a5.to i2l) (.assign rfl .nil) fun Y U =>?_
   refine wad ?_
   show K3 _ _
   exact hC3 _ _ ⟨_,_,_,U.only [1,4],a5.ren [(1,1),(9,38),(11,30)] (by decide)⟩
  refine lj U a0 32 (k:=.i64) rfl rfl U31 ov rfl rfl rfl rfl fun jc Y jd U c6 =>?_
  refine⟨fun _=>(c6.to i2l),?_⟩
  refine so 8 ?_
  refine lj U c6 33 (k:=.i64) rfl rfl U31 ov rfl rfl rfl rfl fun je Y jf U c7 =>?_
  refine⟨c7.to i2l,?_⟩
  have c8:=c7.freezeN 33 rfl
  refine so 9 ?_
  refine ecn U Tryz.func39 rfl c8 34 (lz [vo,ch,cn,sz] _ _ _ ((c8.rd (i:=33) rfl).any) (by simp) (b63 (by simp;omega))) fun jg jh Y ji U da =>?_
  refine⟨da.to i2l,?_⟩
  have db:=da.freezeN 31 rfl
  refine so 17 ?_
  refine ecn U Tryz.func40 rfl db 35 (lM [fr,to,fl] _ _ _ ((db.rd (i:=31) rfl).any) (by simp) (b63 (by simp;omega))) fun jj jk Y jl U dc =>?_
  refine⟨dc.to i2l,?_⟩
  have de:=dc.freezeN 32 rfl
  refine so 22 ?_
  refine ecn U Tryz.func39 rfl de 36 (lz [(W.length:Int)] _ _ _ ((de.rd (i:=32) rfl).any) (by simp) (b63 (by simp;omega))) fun jm jn Y jo U df =>?_
  refine⟨df.to i2l,?_⟩
  have ey:=df.freezeN 34 rfl
  have ez:=ey.freezeN 35 rfl
  have aA:=ez.freezeN 36 rfl
  refine so 23 ?_
  refine lq U aA 37 (mm:=1) rfl (.cons rfl rfl (.cons (aA.rd (i:=34) rfl) .nil)<|.cons rfl rfl (.cons (aA.rd (i:=35) rfl) .nil)<|.cons rfl rfl (.cons (aA.rd (i:=36) rfl) .nil) .nil) U59 mG rfl rfl rfl rfl rfl fun jp Y jq U dg =>?_
  refine⟨dg.to i2l,?_⟩
  have dh:=dg.freezeR 37 rfl
  refine so 24 ?_
  refine ecn U Tryz.func38 rfl dh 38 (lB (ls:=[ll [vo,ch,cn,sz],ll [fr,to,fl],ll [(W.length:Int)]]) (S:=hdB vo ch cn sz fr to fl W) ((dh.rd (i:=37) rfl).any) (by simp) (by simp [lD];first|(have h1:=k8 [vo,ch,cn,sz];have h2:=k8 [fr,to,fl];have h3:=k8 [(W.length:Int)];simp at h1 h2 h3;omega)|(have h1:=k8 [xs];have h2:=k8 [((xl.map itD).length:Int)];simp at h1 h2;omega)|(have h1:=k8 [xb];have h2:=(lv (xd.length:Int)).1;simp at h1;omega)) (by first|(simp [hdB];done)|(simp [itB];done)|simp)) fun jr js Y jt U a6 =>?_
  refine⟨a6.to i2l,?_⟩
  refine goA aa [25] 1 33554431 67108863 U (a6.to i2l) (.assign rfl .nil) fun Y U =>?_
  refine wad ?_
  show K3 _ _
  exact hC3 _ _ ⟨_,_,_,U.only [1,4],a6.ren [(1,1),(9,38),(11,30)] (by decide)⟩
 refine lj U aj 31 (k:=.i64) rfl rfl U31 ov rfl rfl rfl rfl fun ju Y jv U a7 =>?_
 refine⟨fun _=>(a7.to i2l),?_⟩
 refine dtw 8 16 ?_ ?_
 ·
  refine lj U a7 32 (k:=.i64) rfl rfl U31 ov rfl rfl rfl rfl fun jw Y jx U a8 =>?_
  refine⟨fun _=>(a8.to i2l),?_⟩
  refine dtw 9 16 ?_ ?_
  ·
   have di:=a8.freezeN 32 rfl
   refine ecn U Tryz.func39 rfl di 33 (lz [vo,ch,cn,sz] _ _ _ ((di.rd (i:=32) rfl).any) (by simp) (b63 (by simp;omega))) fun jy jz Y jA U dj =>?_
   refine⟨fun _=>(dj.to i2l),?_⟩
   refine so 16 ?_
   refine lj U dj 34 (k:=.i64) rfl rfl U32 lS rfl rfl rfl rfl fun jB Y jC U dk =>?_
   refine⟨dk.to i2l,?_⟩
   have dl:=dk.freezeN 34 rfl
   refine so 17 ?_
   refine ecn U Tryz.func40 rfl dl 35 (lM [fr,to,fl] _ _ _ ((dl.rd (i:=34) rfl).any) (by simp) (b63 (by simp;omega))) fun jD jE Y jF U dm =>?_
   refine⟨dm.to i2l,?_⟩
   have dn:=dm.freezeN 31 rfl
   refine so 22 ?_
   refine ecn U Tryz.func39 rfl dn 36 (lz [(W.length:Int)] _ _ _ ((dn.rd (i:=31) rfl).any) (by simp) (b63 (by simp;omega))) fun jG jH Y jI U dp =>?_
   refine⟨dp.to i2l,?_⟩
   have eA:=dp.freezeN 33 rfl
   have eB:=eA.freezeN 35 rfl
   have aB:=eB.freezeN 36 rfl
   refine so 23 ?_
   refine lq U aB 37 (mm:=1) rfl (.cons rfl rfl (.cons (aB.rd (i:=33) rfl) .nil)<|.cons rfl rfl (.cons (aB.rd (i:=35) rfl) .nil)<|.cons rfl rfl (.cons (aB.rd (i:=36) rfl) .nil) .nil) U59 mG rfl rfl rfl rfl rfl fun jJ Y jK U dq =>?_
   refine⟨dq.to i2l,?_⟩
   have dr:=dq.freezeR 37 rfl
   refine so 24 ?_
   refine ecn U Tryz.func38 rfl dr 38 (lB (ls:=[ll [vo,ch,cn,sz],ll [fr,to,fl],ll [(W.length:Int)]]) (S:=hdB vo ch cn sz fr to fl W) ((dr.rd (i:=37) rfl).any) (by simp) (by simp [lD];first|(have h1:=k8 [vo,ch,cn,sz];have h2:=k8 [fr,to,fl];have h3:=k8 [(W.length:Int)];simp at h1 h2 h3;omega)|(have h1:=k8 [xs];have h2:=k8 [((xl.map itD).length:Int)];simp at h1 h2;omega)|(have h1:=k8 [xb];have h2:=(lv (xd.length:Int)).1;simp at h1;omega)) (by first|(simp [hdB];done)|(simp [itB];done)|simp)) fun jL jM Y jN U a9 =>?_
   refine⟨a9.to i2l,?_⟩
   refine goA aa [25] 1 33554431 67108863 U (a9.to i2l) (.assign rfl .nil) fun Y U =>?_
   refine wad ?_
   show K3 _ _
   exact hC3 _ _ ⟨_,_,_,U.only [1,4],a9.ren [(1,1),(9,38),(11,30)] (by decide)⟩
  refine lj U a8 33 (k:=.i64) rfl rfl U32 lS rfl rfl rfl rfl fun jO Y jP U ds =>?_
  refine⟨fun _=>(ds.to i2l),?_⟩
  have dt:=ds.freezeN 32 rfl
  refine so 9 ?_
  refine ecn U Tryz.func39 rfl dt 34 (lz [vo,ch,cn,sz] _ _ _ ((dt.rd (i:=32) rfl).any) (by simp) (b63 (by simp;omega))) fun jQ jR Y jS U du =>?_
  refine⟨du.to i2l,?_⟩
  have dv:=du.freezeN 33 rfl
  refine so 17 ?_
  refine ecn U Tryz.func40 rfl dv 35 (lM [fr,to,fl] _ _ _ ((dv.rd (i:=33) rfl).any) (by simp) (b63 (by simp;omega))) fun jT jU Y jV U dw =>?_
  refine⟨dw.to i2l,?_⟩
  have dx:=dw.freezeN 31 rfl
  refine so 22 ?_
  refine ecn U Tryz.func39 rfl dx 36 (lz [(W.length:Int)] _ _ _ ((dx.rd (i:=31) rfl).any) (by simp) (b63 (by simp;omega))) fun jW jX Y jY U dy =>?_
  refine⟨dy.to i2l,?_⟩
  have eC:=dy.freezeN 34 rfl
  have eD:=eC.freezeN 35 rfl
  have aC:=eD.freezeN 36 rfl
  refine so 23 ?_
  refine lq U aC 37 (mm:=1) rfl (.cons rfl rfl (.cons (aC.rd (i:=34) rfl) .nil)<|.cons rfl rfl (.cons (aC.rd (i:=35) rfl) .nil)<|.cons rfl rfl (.cons (aC.rd (i:=36) rfl) .nil) .nil) U59 mG rfl rfl rfl rfl rfl fun jZ Y j0 U dz =>?_
  refine⟨dz.to i2l,?_⟩
  have dA:=dz.freezeR 37 rfl
  refine so 24 ?_
  refine ecn U Tryz.func38 rfl dA 38 (lB (ls:=[ll [vo,ch,cn,sz],ll [fr,to,fl],ll [(W.length:Int)]]) (S:=hdB vo ch cn sz fr to fl W) ((dA.rd (i:=37) rfl).any) (by simp) (by simp [lD];first|(have h1:=k8 [vo,ch,cn,sz];have h2:=k8 [fr,to,fl];have h3:=k8 [(W.length:Int)];simp at h1 h2 h3;omega)|(have h1:=k8 [xs];have h2:=k8 [((xl.map itD).length:Int)];simp at h1 h2;omega)|(have h1:=k8 [xb];have h2:=(lv (xd.length:Int)).1;simp at h1;omega)) (by first|(simp [hdB];done)|(simp [itB];done)|simp)) fun j1 j2 Y j3 U ba =>?_
  refine⟨ba.to i2l,?_⟩
  refine goA aa [25] 1 33554431 67108863 U (ba.to i2l) (.assign rfl .nil) fun Y U =>?_
  refine wad ?_
  show K3 _ _
  exact hC3 _ _ ⟨_,_,_,U.only [1,4],ba.ren [(1,1),(9,38),(11,30)] (by decide)⟩
 refine lj U a7 32 (k:=.i64) rfl rfl U32 lS rfl rfl rfl rfl fun j4 Y j5 U dB =>?_
 refine⟨fun _=>(dB.to i2l),?_⟩
 refine so 8 ?_
 refine lj U dB 33 (k:=.i64) rfl rfl U31 ov rfl rfl rfl rfl fun j6 Y j7 U dC =>?_
 refine⟨dC.to i2l,?_⟩
 have dD:=dC.freezeN 33 rfl
 refine so 9 ?_
 refine ecn U Tryz.func39 rfl dD 34 (lz [vo,ch,cn,sz] _ _ _ ((dD.rd (i:=33) rfl).any) (by simp) (b63 (by simp;omega))) fun j8 j9 Y ka U dE =>?_
 refine⟨dE.to i2l,?_⟩
 have dF:=dE.freezeN 32 rfl
 refine so 17 ?_
 refine ecn U Tryz.func40 rfl dF 35 (lM [fr,to,fl] _ _ _ ((dF.rd (i:=32) rfl).any) (by simp) (b63 (by simp;omega))) fun kb kc Y kd U dG =>?_
 refine⟨dG.to i2l,?_⟩
 have dH:=dG.freezeN 31 rfl
 refine so 22 ?_
 refine ecn U Tryz.func39 rfl dH 36 (lz [(W.length:Int)] _ _ _ ((dH.rd (i:=31) rfl).any) (by simp) (b63 (by simp;omega))) fun ke kf Y kg U dI =>?_
 refine⟨dI.to i2l,?_⟩
 have eE:=dI.freezeN 34 rfl
 have eF:=eE.freezeN 35 rfl
 have aD:=eF.freezeN 36 rfl
 refine so 23 ?_
 refine lq U aD 37 (mm:=1) rfl (.cons rfl rfl (.cons (aD.rd (i:=34) rfl) .nil)<|.cons rfl rfl (.cons (aD.rd (i:=35) rfl) .nil)<|.cons rfl rfl (.cons (aD.rd (i:=36) rfl) .nil) .nil) U59 mG rfl rfl rfl rfl rfl fun kh Y ki U dJ =>?_
 refine⟨dJ.to i2l,?_⟩
 have dK:=dJ.freezeR 37 rfl
 refine so 24 ?_
 refine ecn U Tryz.func38 rfl dK 38 (lB (ls:=[ll [vo,ch,cn,sz],ll [fr,to,fl],ll [(W.length:Int)]]) (S:=hdB vo ch cn sz fr to fl W) ((dK.rd (i:=37) rfl).any) (by simp) (by simp [lD];first|(have h1:=k8 [vo,ch,cn,sz];have h2:=k8 [fr,to,fl];have h3:=k8 [(W.length:Int)];simp at h1 h2 h3;omega)|(have h1:=k8 [xs];have h2:=k8 [((xl.map itD).length:Int)];simp at h1 h2;omega)|(have h1:=k8 [xb];have h2:=(lv (xd.length:Int)).1;simp at h1;omega)) (by first|(simp [hdB];done)|(simp [itB];done)|simp)) fun kj kk Y kl U bb =>?_
 refine⟨bb.to i2l,?_⟩
 refine goA aa [25] 1 33554431 67108863 U (bb.to i2l) (.assign rfl .nil) fun Y U =>?_
 refine wad ?_
 show K3 _ _
 exact hC3 _ _ ⟨_,_,_,U.only [1,4],bb.ren [(1,1),(9,38),(11,30)] (by decide)⟩
end
end Go.Proofs.YteglmahnkfgelaaGreat.K
