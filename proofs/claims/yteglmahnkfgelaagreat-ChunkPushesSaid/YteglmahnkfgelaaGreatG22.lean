/- General laws of walks. -/
import Derived.Test.YteglmahnkfgelaaGreatG17
import Derived.Test.YteglmahnkfgelaaGreatG21
namespace Go.Proofs.YteglmahnkfgelaaGreat.K
open Go.ChangeShapes Go.WideShapes Go.ChangeAt Go.RowKit
set_option linter.unusedVariables false
set_option linter.unusedSimpArgs false
set_option maxRecDepth 100000
set_option maxHeartbeats 4000000
set_option autoImplicit true
set_option relaxedAutoImplicit true
section
theorem sN(X:Cx)(vo ch cn sz mk fl fr to fl2:Int)(H:List (List Ver))(W:List (Int×List (Int×List Int)))(p pw:Option Addr)(nn c nw cw:Nat)(w0:World)(hok:HB 900000 H)(hH:(H.length:Int)=cn)(hP:nA vo ch cn sz fr to fl2 W)(hfm:fr≤mk)(m0:MemOk X w0 [(1,.dat (.slice p nn c) (.l 1 (H.map hD))),(2,.dat (.slice pw nw cw) (.l 2 (W.map wrD)))] w0) :
   Calls Tryz.prog 18 #[.agg #[.int .i64 vo,.int .i64 ch,.int .i64 cn,.int .i64 sz,.int .i64 mk,.int .i64 fl,.slice p nn c],.agg #[.int .i64 vo,.int .i64 ch,.int .i64 cn,.int .i64 sz,.int .i64 fr,.int .i64 to,.int .i64 fl2,.slice pw nw cw]] w0 fun e w' => ∃ (p9:Option Addr) (c9:Nat),e=.returned (.agg #[.int .i64 vo,.int .i64 ch,.int .i64 cn,.int .i64 sz,.int .i64 (max mk to),.int .i64 (max fl fl2),.slice p9 nn c9])∧MemOk X w0 [(1,.dat (.slice p nn c) (.l 1 (H.map hD))),(2,.dat (.slice pw nw cw) (.l 2 (W.map wrD))),(9,.row (.slice p9 nn c9) 94 1 (((lP mk H W).map (fun h=>lr h (max fl fl2))).map hD))] w':=by
 refine mR Tryz.func18 rfl Tryz.ntmps18 fun Y U =>?_
 have hl:H.length≤1000000:=by have:=hP.1.2.2.1;omega
 have hWl:=hP.2.2.2.2.1
 have hnn:nn=H.length:=nX (m0.rd (i:=1) rfl)
 have hnw:nw=W.length:=nX (m0.rd (i:=2) rfl)
 revert U
 subst hnn;subst hnw
 intro U
 refine zsr fun K0 hK0 =>?_
 refine plz (ly U m0 30 (cs:=[_,_,_,_,_,_,_]) rfl rfl rfl fun g1 Y w2 U m2 _ _ =>?_)
 refine plz (ly U m2 31 (cs:=[_,_,_,_,_,_,_,_]) rfl rfl rfl fun g3 Y w4 U m4 _ _ =>?_)
 refine plz (lc U m4 32 oV rfl fun g5 Y w6 U m6 _ _ =>?_)
 refine znl (hK0 _ _ ?_)
 refine wsk fun K1 hK1 =>?_
 refine zsr fun K2 hK2 =>?_
 refine k9 U (.loadBR m6 (i:=31) rfl rfl U25 rfl lF (by simp) (by dsimp only [List.drop,List.take] <;> rfl) .nil) fun Y U =>?_
 refine plz (ecl U Tryz.func15 rfl (uW _ vo ch cn sz fr to fl2 W _ _ _ _ hP (m6.into [(1,2)] (by decide) rfl)) ?_)
 rintro e w9 ⟨rfl,hm9⟩
 have mx9:=m6.back hm9 [(2,1)] (by decide);clear hm9 m6
 have m9:=mx9.oz [2,1,30,31,32]
 refine⟨_,rfl,?_⟩;intro Y U
 refine k9 U (.not rfl<|.move rfl<|.faZ 0 rfl U39<|.loadB1Z m9 (i:=30) rfl rfl rfl U3 rfl<|.faZ 0 rfl U25<|.loadB1Z m9 (i:=31) rfl rfl rfl U3 rfl<|.neqZ rfl rfl<|.pickF rfl rfl<|.move rfl .nil) fun Y U =>?_
 refine bc U 21 ?_ ?_
 · intro hb _;exact absurd hb (by first|(simp;done)|(simp;omega))
 clear U;intro _ U
 refine k9 U (.faZ 1 rfl U39<|.loadB1Z m9 (i:=30) rfl rfl rfl U3 rfl<|.faZ 1 rfl U25<|.loadB1Z m9 (i:=31) rfl rfl rfl U3 rfl<|.neqZ rfl rfl<|.pickF rfl rfl<|.move rfl .nil) fun Y U =>?_
 refine bc U 28 ?_ ?_
 · intro hb _;exact absurd hb (by first|(simp;done)|(simp;omega))
 clear U;intro _ U
 refine k9 U (.faZ 2 rfl U39<|.loadB1Z m9 (i:=30) rfl rfl rfl U3 rfl<|.faZ 2 rfl U25<|.loadB1Z m9 (i:=31) rfl rfl rfl U3 rfl<|.neqZ rfl rfl<|.pickF rfl rfl<|.move rfl .nil) fun Y U =>?_
 refine bc U 35 ?_ ?_
 · intro hb _;exact absurd hb (by first|(simp;done)|(simp;omega))
 clear U;intro _ U
 refine k9 U (.faZ 3 rfl U39<|.loadB1Z m9 (i:=30) rfl rfl rfl U3 rfl<|.faZ 3 rfl U25<|.loadB1Z m9 (i:=31) rfl rfl rfl U3 rfl<|.neqZ rfl rfl<|.pickF rfl rfl<|.move rfl .nil) fun Y U =>?_
 refine bc U 42 ?_ ?_
 · intro hb _;exact absurd hb (by first|(simp;done)|(simp;omega))
 clear U;intro _ U
 refine gz hK2 U (.faZ 4 rfl U39<|.loadB1Z m9 (i:=30) rfl rfl rfl U2 rfl<|.faZ 4 rfl U25<|.loadB1Z m9 (i:=31) rfl rfl rfl U2 rfl<|.lssZ rfl rfl<|.pickF rfl rfl<|.nil) fun Y U =>?_
 refine bc U 48 ?_ ?_
 · intro hb _;exact absurd hb (by first|(simp;done)|(simp;omega))
 clear U;intro _ U
 refine wcf U ?_
 refine zss (hK1 _ _ ?_)
 replace U:=U.oz [2,3,4,39]
 refine zsr fun K3 hK3 =>?_
 refine k9 U (.fa 6 rfl U39<|.lb m9 30 U37 rfl rfl rfl .nil) fun Y U =>?_
 have bW:=m9.nilR 33 94 1
 refine plz (lC U bW 33 rfl rfl rfl (bW.rd (i:=1) rfl) U37 ue rfl rfl (by decide) (by simp only [List.length_append,List.length_nil,List.length_map,List.length_cons];omega) rfl fun c6 c7 Y c8 U bA =>?_)
 refine gz hK3 U (.assign rfl .nil) fun Y U =>?_
 refine wsk fun K4 hK4 =>?_
 refine la U (.assign rfl .nil) fun Y U =>?_
 refine wp_block ?_
 refine wp_loop_ghost (fun g a w => ∃ (k gA gB gR:Nat) (Hk:List (List Ver)) (p9:Option Addr) (c9:Nat),k≤W.length∧g=W.length - k∧Hk=lP mk H (W.take k)∧HB (900000+8*k) Hk∧Has 132 [(2,.pointer (some ⟨gA,0,none⟩)),(3,.pointer (some ⟨gB,0,none⟩)),(4,.pointer (some ⟨gR,0,none⟩)),(5,.slice p9 H.length c9),(6,.int .i64 k)] a∧MemOk X w0 [(1,.dat (.slice p H.length c) (.l 1 (H.map hD))),(2,.dat (.slice pw W.length cw) (.l 2 (W.map wrD))),(9,.row (.slice p9 H.length c9) 94 1 (Hk.map hD)),(10,.box gA 39 [.int .i64 vo,.int .i64 ch,.int .i64 cn,.int .i64 sz,.int .i64 mk,.int .i64 fl,.slice p H.length c]),(11,.box gB 25 [.int .i64 vo,.int .i64 ch,.int .i64 cn,.int .i64 sz,.int .i64 fr,.int .i64 to,.int .i64 fl2,.slice pw W.length cw]),(12,.box gR 39 [.int .i64 0,.int .i64 0,.int .i64 0,.int .i64 0,.int .i64 0,.int .i64 0,.slice none 0 0])] w) (W.length) ?_ ?_
 · simp only [List.nil_append,List.length_nil,List.length_append,List.length_map,Nat.zero_add] at bA U
   exact⟨0,_,_,_,H,_,_,Nat.zero_le _,rfl,rfl,hok.up (by omega),U.only [2,3,4,5,6],bA.ren [(1,1),(2,2),(9,33),(10,30),(11,31),(12,32)] (by decide)⟩
 clear U bA
 rintro g Y da ⟨k,gA,gB,gR,Hk,p9,c9,hkl,hg,hHk,hHB,U,aR⟩
 refine wsk fun K5 hK5 =>?_
 refine la U (.move rfl<|.fa 7 rfl U25<|.lb aR 11 U23 rfl rfl rfl<|.len rfl U23<|.lss rfl rfl .nil) fun Y U =>?_
 refine bc U 57 ?_ ?_
 ·
  intro aq U;try simp only [QQ,Qax] at aq
  have hk:k<W.length:=by have:=aq;first|omega|(simp at this;omega)
  obtain⟨⟨xs,xl⟩,hes⟩:∃ e,W[k]? = some e:=⟨_,List.getElem?_eq_getElem hk⟩
  have hit:∀ {j:Nat} {xb:Int} {xd:List Int},xl[j]? = some (xb,xd)→(0≤xb∧xb<cn)∧(xd.length≤32∧xl.length≤8):=fun h7=>nI hP hes h7
  have hx8:xl.length≤8:=oy hP hes
  have hml:(xl.map itD).length=xl.length:=List.length_map _
  refine wct U ?_
  refine zss (hK5 _ _ ?_)
  refine wsk fun K6 hK6 =>?_
  refine wp_block ?_
  refine zsr fun K7 hK7 =>?_
  refine k9 U (.fa 7 rfl U25<|.lb aR 11 U23 rfl rfl rfl<|.move rfl .nil) fun Y U =>?_
  obtain⟨bX,bY,cl,bB,bC,bE,bZ⟩:=aR.openR (i:=2) rfl (k) (r:=[.v (.int .i64 xs),.l 2 (xl.map itD)]) (mj hes) 100 rfl
  revert U
  cases bB;clear aR bE
  rcases bC with _|⟨ar,_|⟨aj,_|_⟩⟩
  obtain rfl:=ar.v_out
  clear ar
  obtain⟨db,dc,bF,cm⟩:=aj.l_shape;subst bF
  intro U
  have b0:=bZ.dat 101 rfl (aj.cast (fun _ h=>(lf rfl h)));clear bZ aj
  refine k9 U (.c rfl (fun _ h_=>li h_ rfl rfl U23 nV (k) rfl hk)<|.loadCR b0 (i:=100) rfl rfl U30 rfl nV .nil) fun Y U =>?_
  refine plz (lc U b0 102 rJ rfl fun de Y df U co _ _ =>?_)
  refine plz (stw U co 102 nV fun dg b1 _ =>?_)
  refine znl (hK7 _ _ ?_)
  replace U:=U.oz [2,3,4,5,6,7]
  refine la U (.assign rfl .nil) fun Y U =>?_
  refine wp_block ?_
  refine wp_loop_ghost (fun g a w => ∃ (j gA gB gR gW:Nat) (L2:List (List Ver)) (p9:Option Addr) (c9:Nat) (px:Option Addr) (cx:Nat),j≤xl.length∧g=xl.length - j∧L2=pT xs Hk (xl.take j)∧(xs≤mk→j=0)∧L2.length=H.length∧HB (900000+8*k+j) L2∧Has 132 [(2,.pointer (some ⟨gA,0,none⟩)),(3,.pointer (some ⟨gB,0,none⟩)),(4,.pointer (some ⟨gR,0,none⟩)),(5,.slice p9 H.length c9),(6,.int .i64 k),(7,.pointer (some ⟨gW,0,none⟩)),(8,.int .i64 j)] a∧MemOk X w0 [(1,.dat (.slice p H.length c) (.l 1 (H.map hD))),(2,.dat (.slice (some ⟨bX,bY,none⟩) W.length cw) (.l 2 (W.map wrD))),(9,.row (.slice p9 H.length c9) 94 1 (L2.map hD)),(10,.box gA 39 [.int .i64 vo,.int .i64 ch,.int .i64 cn,.int .i64 sz,.int .i64 mk,.int .i64 fl,.slice p H.length c]),(11,.box gB 25 [.int .i64 vo,.int .i64 ch,.int .i64 cn,.int .i64 sz,.int .i64 fr,.int .i64 to,.int .i64 fl2,.slice (some ⟨bX,bY,none⟩) W.length cw]),(12,.box gR 39 [.int .i64 0,.int .i64 0,.int .i64 0,.int .i64 0,.int .i64 0,.int .i64 0,.slice none 0 0]),(13,.box gW 30 [.int .i64 xs,.slice px (xl.map itD).length cx]),(14,.dat (.slice px (xl.map itD).length cx) (.l 2 (xl.map itD)))] w) (xl.length) ?_ ?_
  · exact⟨0,_,_,_,_,Hk,_,_,_,_,Nat.zero_le _,rfl,rfl,fun _=>rfl,by rw[hHk,lU],hHB,U.only [2,3,4,5,6,7,8],b1.ren [(1,1),(2,2),(9,9),(10,10),(11,11),(12,12),(13,102),(14,101)] (by decide)⟩
  clear U b1
  rintro g Y dh ⟨j,gA,gB,gR,gW,L2,p9,c9,px,cx,hjl,hg2,hL2,hj0,hLl,hLB,U,ay⟩
  refine wsk fun K8 hK8 =>?_
  refine zsr fun K9 hK9 =>?_
  refine k9 U (.move rfl<|.fa 1 rfl U30<|.lb ay 13 U28 rfl rfl rfl<|.len rfl U28<|.lss rfl rfl<|.move rfl .nil) fun Y U =>?_
  refine bc U 70 ?_ ?_
  ·
   intro au U;try simp only [QQ,Qax] at au
   have hj:j<xl.length:=by have:=au;first|(rw[List.length_map] at this;omega)|(simp at this;omega)
   refine gz hK9 U (.faZ 0 rfl U30<|.loadB1Z ay (i:=13) rfl rfl rfl U2 rfl<|.faZ 4 rfl U39<|.loadB1Z ay (i:=10) rfl rfl rfl U2 rfl<|.gtrZ rfl rfl<|.pickT rfl rfl<|.nil) fun Y U =>?_
   refine bc U 76 ?_ ?_
   ·
    intro ag U;try simp only [QQ,Qax] at ag
    have hgt:mk<xs:=by have:=ag;first|omega|(simp at this;omega)
    obtain⟨⟨xb,xd⟩,hxs⟩:∃ e,xl[j]? = some e:=⟨_,List.getElem?_eq_getElem hj⟩
    have hxb:=(hit hxs).1
    have hxd:xd.length≤1000000:=by have:=(hit hxs).2;omega
    obtain⟨h9,hes9⟩:∃ e,L2[xb.toNat]? = some e:=⟨_,List.getElem?_eq_getElem (by omega)⟩
    have hx9:L2.getD xb.toNat []=h9:=by rw[List.getD,hes9];rfl
    have hh9:=hLB.at (List.mem_of_getElem? hes9)
    refine wct U ?_
    refine zss (hK8 _ _ ?_)
    refine wsk fun di bG =>?_
    refine wp_block ?_
    replace U:=U.oz [2,3,4,5,6,7,8]
    refine zsr fun dj bH =>?_
    refine k9 U (.fa 1 rfl U30<|.lb ay 13 U28 rfl rfl rfl<|.move rfl .nil) fun Y U =>?_
    obtain⟨cp,cq,b4,aS,aT,aU,aV⟩:=ay.openR (i:=14) rfl (j) (r:=[.v (.int .i64 xb),.ns .u8 xd]) (lm hxs) 200 rfl
    revert U
    cases aS;clear ay aU
    rcases aT with _|⟨ak,_|⟨aa,_|_⟩⟩
    obtain rfl:=ak.v_out
    clear ak
    obtain⟨cr,ct,aW,b5⟩:=aa.ns_shape;subst aW
    intro U
    have aX:=aV.dat 201 rfl (aa.cast (fun _ h=>(lf rfl h)));clear aV aa
    refine gz bH U (.c rfl (fun _ h_=>li h_ rfl rfl U28 lX (j) rfl (by rw[List.length_map];omega))<|.fieldAddrQ 0 rfl U78 rfl (s:=0) (by kernel_rfl) rfl<|.loadC0 aX (i:=200) rfl rfl U3 rfl<|.assign rfl<|.nil) fun Y U =>?_
    replace U:=U.oz [2,3,4,5,6,7,8,9]
    obtain⟨b6,b7,aY,aF⟩:=aX.openC (i:=9) rfl (Nat.lt_of_le_of_lt (Nat.zero_le (xb.toNat)) (by first|omega|(rw[List.length_map];omega)))
    revert U
    cases aY
    intro U
    obtain⟨b8,aZ,a0⟩:=aF.eltC (i:=9) rfl (xb.toNat) (r:=[.l 2 (h9.map itD)]) (mS hes9)
    revert U
    rcases a0 with _|⟨ab,_|_⟩
    obtain⟨cu,cv,a1,b9⟩:=ab.l_shape;subst a1
    intro U
    have a2:=aF.dat 202 rfl (ab.cast (fun _ h=>h));clear aF ab
    obtain⟨cy,cz,ca,a3,a4,a5,a6⟩:=a2.openR (i:=14) rfl (j) (r:=[.v (.int .i64 xb),.ns .u8 xd]) (lm hxs) 203 rfl
    revert U
    cases a3;clear a2 a5
    rcases a4 with _|⟨al,_|⟨ac,_|_⟩⟩
    obtain rfl:=al.v_out
    clear al
    obtain⟨cA,cB,a7,cb⟩:=ac.ns_shape;subst a7
    intro U
    have bI:=a6.dat 204 rfl (ac.cast (fun _ h=>(lf rfl h)));clear a6 ac
    have aG:=bI.oz [1,2,9,10,11,12,13,14,200,201,202,203,204]
    refine region_p 16 (B:=[(1,_),(2,_),(9,_),(10,_),(11,_),(12,_),(13,_),(14,_),(200,_),(201,_),(202,_),(203,_),(204,_)]) (aG.to Ac) aG (by kernel_rfl) (fun cC az av =>?_);clear aG
    refine goR az [0,1,2,3,4,5,6,7,8,9,10,11,12,13] [5,7,9,13] 14 0 16383 U (av.to Ac) (.move rfl<|.move rfl<|.move rfl<|.move rfl<|.p (fun _ _ h_=>li h_ rfl rfl U37 mJ (xb.toNat) (Int.toNat_of_nonneg hxb.1).symm (by first|omega|(rw[List.length_map];omega)))<|.c (fun _ hW _ h_=>nM h_ hW (i:=9) rfl (xb.toNat) aZ rfl U94 rfl)<|.fa 0 rfl U30<|.lb hh 13 U2 rfl rfl rfl<|.fa 1 rfl U30<|.lb hh 13 U28 rfl rfl rfl<|.move rfl<|.p (fun _ _ h_=>li h_ rfl rfl U28 lX (j) rfl (by rw[List.length_map];omega))<|.fieldAddrQ 1 rfl U78 rfl (s:=0) (by kernel_rfl) rfl<|.loadC1 hh (i:=203) (q:=1) rfl rfl rfl U22 rfl .nil) fun Y U =>?_
    refine so 14 ?_
    refine ecl U Tryz.func55 rfl (zH _ h9 xs xd _ _ _ _ _ _ hh9.2.1 hxd (av.into [(1,202),(2,204)] (by decide) rfl)) ?_
    rintro e cD ⟨cE,cF,rfl,aA⟩
    have a8:=av.back aA [(202,1),(204,2),(205,9)] (by decide);clear aA av
    have aH:=a8.oz [202,204,205,1,2,9,10,11,12,13,14,200,201,203]
    refine⟨_,rfl,?_⟩;intro Y U
    refine⟨aH.to Ac,?_⟩
    refine goA az [15] 1 32767 65535 U (aH.to Ac) (.p (fun _ _ h_=>li h_ rfl rfl U37 mJ (xb.toNat) (Int.toNat_of_nonneg hxb.1).symm (by omega)) .nil) fun Y U =>?_
    have a9:=aH.closeC 9 rfl
    refine se 16 ?_
    refine nN U a9 9 rfl (xb.toNat) (by rw[List.length_map];omega) rfl rfl rfl rfl mJ (a9.rd (i:=205) rfl) fun cG ba =>?_
    have hset:(L2.map hD).set xb.toNat [D.l 2 ((mN h9 xs xd).map itD)]=(L2.set xb.toNat (mN h9 xs xd)).map hD:=by rw[List.map_set];rfl
    rw[hset] at ba
    refine wad ?_
    refine bG _ _ ?_
    replace U:=U.oz [2,3,4,5,6,7,8]
    refine wp_region_lit ?_
    refine k9 U (.move rfl<|.inc (j+1)<|.assign rfl .nil) fun Y U =>?_
    refine wpList_nil ?_
    show ∃ n',n'<_∧_
    exact⟨xl.length - (j+1),by omega,j+1,_,_,_,_,L2.set xb.toNat (mN h9 xs xd),_,_,_,_,by omega,rfl,by rw[rc hxs,← hL2,hx9],fun h8=>by omega,by rw[List.length_set];exact hLl,hLB.set hh9.1 hxd (by omega),U.only [2,3,4,5,6,7,8],ba.ren [(1,1),(2,2),(9,9),(10,10),(11,11),(12,12),(13,13),(14,14)] (by decide)⟩
   intro ag U;try simp only [QQ,Qax] at ag
   have hj9:xs≤mk∨j=xl.length:=.inl (by have:=ag;first|omega|(simp at this;omega))
   refine wcf U ?_
   refine wp_exit ?_
   refine hK6 _ _ ?_
   replace U:=U.oz [2,3,4,5,6,7,8]
   refine wp_region_lit ?_
   refine k9 U (.move rfl<|.inc (k+1)<|.assign rfl .nil) fun Y U =>?_
   refine wpList_nil ?_
   show ∃ n',n'<_∧_
   have hstep:L2=lP mk H (W.take (k+1)):=by
     rw[nl hes,← hHk]
     by_cases hle9:xs≤mk
     · rw[if_pos hle9,hL2,hj0 hle9,List.take_zero];rfl
     rw[if_neg hle9,hL2,hj9.resolve_left hle9,List.take_length]
   exact⟨W.length - (k+1),by omega,k+1,_,_,_,L2,_,_,by omega,rfl,hstep,hLB.up (by omega),U.only [2,3,4,5,6],ay.ren [(1,1),(2,2),(9,9),(10,10),(11,11),(12,12)] (by decide)⟩
  intro au U;try simp only [QQ,Qax] at au
  have hj9:xs≤mk∨j=xl.length:=.inr (by have:=au;first|(rw[List.length_map] at this;omega)|(simp at this;omega))
  refine gz hK9 U (.sk<|.sk<|.sk<|.sk<|.sk<|.pickF rfl rfl<|.nil) fun Y U =>?_
  refine wcf U ?_
  refine wp_exit ?_
  refine hK6 _ _ ?_
  replace U:=U.oz [2,3,4,5,6,7,8]
  refine wp_region_lit ?_
  refine k9 U (.move rfl<|.inc (k+1)<|.assign rfl .nil) fun Y U =>?_
  refine wpList_nil ?_
  show ∃ n',n'<_∧_
  have hstep:L2=lP mk H (W.take (k+1)):=by
    rw[nl hes,← hHk]
    by_cases hle9:xs≤mk
    · rw[if_pos hle9,hL2,hj0 hle9,List.take_zero];rfl
    rw[if_neg hle9,hL2,hj9.resolve_left hle9,List.take_length]
  exact⟨W.length - (k+1),by omega,k+1,_,_,_,L2,_,_,by omega,rfl,hstep,hLB.up (by omega),U.only [2,3,4,5,6],ay.ren [(1,1),(2,2),(9,9),(10,10),(11,11),(12,12)] (by decide)⟩
 intro aq U;try simp only [QQ,Qax] at aq
 revert U
 obtain rfl:k=W.length:=by have:=aq;first|omega|(simp at this;omega)
 intro U
 rw[List.take_length] at hHk
 have hfl:Hk.length=H.length:=by rw[hHk,lU]
 refine wcf U ?_
 refine wp_exit ?_
 refine hK4 _ _ ?_
 refine wsk fun dk bb =>?_
 have aI:=aR.oz [1,2,9,10,11,12]
 refine region_p 11 (B:=[(1,_),(2,_),(9,_),(10,_),(11,_),(12,_)]) (aI.to i6l) aI (by kernel_rfl) (fun cH ao ap =>?_);clear aI
 refine goR ao [0,1,2,3,4,5,6,7,10] [1,3,6] 9 0 1279 U (ap.to i6l) (.fa 4 rfl U39<|.lb hh 10 U2 rfl rfl rfl<|.fa 5 rfl U25<|.lb hh 11 U2 rfl rfl rfl<|.p (fun _ _ h_=>oK h_ rfl rfl rfl)<|.fa 5 rfl U39<|.lb hh 10 U2 rfl rfl rfl<|.fa 6 rfl U25<|.fa 4 rfl U39 .nil) fun Y U =>?_
 refine dtw 8 11 ?_ ?_
 ·
  refine e_y U rfl (mH U ap (i:=11) rfl rfl rfl U2 rfl) fun Y U =>?_
  refine⟨fun _=>(ap.to i6l),?_⟩
  refine goA ao [9] 1 1535 2047 U (ap.to i6l) (.p (fun _ _ h_=>oK h_ rfl rfl rfl) .nil) fun Y U =>?_
  refine se 11 ?_
  refine st1 U ap 10 l3 fun cI bJ _ =>?_
  refine goB ao [12] 1 4095 8191 U (.fa 5 rfl U39 .nil) fun Y U =>?_
  refine se 13 ?_
  refine st1 U bJ 10 l3 fun cJ bd _ =>?_
  refine wad ?_
  refine bb _ _ ?_
  refine wsk fun dl bK =>?_
  replace U:=U.oz [2,3,4,5,6]
  refine la U (.assign rfl .nil) fun Y U =>?_
  refine wp_block ?_
  refine wp_loop_ghost (fun g a w => ∃ (k gA gB gR:Nat) (L3:List (List Ver)) (p9:Option Addr) (c9:Nat),k≤H.length∧g=H.length - k∧L3=((Hk.take k).map (fun h=>lr h (max fl fl2))++Hk.drop k)∧Has 132 [(2,.pointer (some ⟨gA,0,none⟩)),(3,.pointer (some ⟨gB,0,none⟩)),(4,.pointer (some ⟨gR,0,none⟩)),(5,.slice p9 H.length c9),(10,.int .i64 k)] a∧MemOk X w0 [(1,.dat (.slice p H.length c) (.l 1 (H.map hD))),(2,.dat (.slice pw W.length cw) (.l 2 (W.map wrD))),(9,.row (.slice p9 H.length c9) 94 1 (L3.map hD)),(10,.box gA 39 [.int .i64 vo,.int .i64 ch,.int .i64 cn,.int .i64 sz,.int .i64 (max mk to),.int .i64 (max fl fl2),.slice p H.length c]),(11,.box gB 25 [.int .i64 vo,.int .i64 ch,.int .i64 cn,.int .i64 sz,.int .i64 fr,.int .i64 to,.int .i64 fl2,.slice pw W.length cw]),(12,.box gR 39 [.int .i64 0,.int .i64 0,.int .i64 0,.int .i64 0,.int .i64 0,.int .i64 0,.slice none 0 0])] w) (H.length) ?_ ?_
  · exact⟨0,_,_,_,Hk,_,_,Nat.zero_le _,rfl,by simp,U.only [2,3,4,5,10],bd.ren [(1,1),(2,2),(9,9),(10,10),(11,11),(12,12)] (by decide)⟩
  clear U bd
  rintro g Y cK ⟨k,gA,gB,gR,L3,p9,c9,hkl,hg3,hL3,U,be⟩
  refine wsk fun dm bL =>?_
  refine la U (.move rfl<|.move rfl<|.len rfl U37<|.lss rfl rfl .nil) fun Y U =>?_
  refine bc U 116 ?_ ?_
  ·
   intro ah U;try simp only [QQ,Qax] at ah
   have hk:k<H.length:=by have:=ah;first|omega|(simp at this;omega)
   obtain⟨h9,hes⟩:∃ e,Hk[k]? = some e:=⟨_,List.getElem?_eq_getElem (by omega)⟩
   have hes9:L3[k]? = some h9:=by rw[hL3];exact qD hes
   have hLl:L3.length=H.length:=by rw[hL3,List.length_append,List.length_map,List.length_take,List.length_drop];omega
   have hh9:=hHB.at (List.mem_of_getElem? hes)
   refine wct U ?_
   refine zss (bL _ _ ?_)
   refine wsk fun dn bM =>?_
   refine wp_block ?_
   obtain⟨cc,cd,bf,aJ⟩:=be.openC (i:=9) rfl (Nat.lt_of_le_of_lt (Nat.zero_le (k)) (by first|omega|(rw[List.length_map];omega)))
   revert U
   cases bf
   intro U
   obtain⟨ce,bg,bh⟩:=aJ.eltC (i:=9) rfl (k) (r:=[.l 2 (h9.map itD)]) (mS hes9)
   revert U
   rcases bh with _|⟨ad,_|_⟩
   obtain⟨cL,cM,bi,cf⟩:=ad.l_shape;subst bi
   intro U
   have bN:=aJ.dat 200 rfl (ad.cast (fun _ h=>h));clear aJ ad
   have aK:=bN.oz [1,2,9,10,11,12,200]
   refine region_p 10 (B:=[(1,_),(2,_),(9,_),(10,_),(11,_),(12,_),(200,_)]) (aK.to i7l) aK (by kernel_rfl) (fun cN aB aw =>?_);clear aK
   refine goR aB [0,1,2,3,4,5,6,7] [5,7] 8 0 255 U (aw.to i7l) (.move rfl<|.move rfl<|.move rfl<|.move rfl<|.p (fun _ _ h_=>li h_ rfl rfl U37 mJ (k) rfl (by first|omega|(rw[List.length_map];omega)))<|.c (fun _ hW _ h_=>nM h_ hW (i:=9) rfl (k) bg rfl U94 rfl)<|.fa 5 rfl U39<|.lb hh 10 U2 rfl rfl rfl .nil) fun Y U =>?_
   refine so 8 ?_
   refine ecl U Tryz.func56 rfl (sZ _ h9 (max fl fl2) _ _ _ _ hh9.2.1 hh9.1 (aw.into [(1,200)] (by decide) rfl)) ?_
   rintro e cO ⟨cP,cQ,rfl,aC⟩
   have bj:=aw.back aC [(200,1),(201,9)] (by decide);clear aC aw
   have aL:=bj.oz [200,201,1,2,9,10,11,12]
   refine⟨_,rfl,?_⟩;intro Y U
   refine⟨aL.to i7l,?_⟩
   refine goA aB [9] 1 511 1023 U (aL.to i7l) (.p (fun _ _ h_=>li h_ rfl rfl U37 mJ (k) rfl (by omega)) .nil) fun Y U =>?_
   have bk:=aL.closeC 9 rfl
   refine se 10 ?_
   refine nN U bk 9 rfl (k) (by rw[List.length_map];omega) rfl rfl rfl rfl mJ (bk.rd (i:=201) rfl) fun cR bm =>?_
   have hset:(L3.map hD).set k [D.l 2 ((lr h9 (max fl fl2)).map itD)]=(L3.set k (lr h9 (max fl fl2))).map hD:=by rw[List.map_set];rfl
   rw[hset] at bm
   refine wad ?_
   refine bM _ _ ?_
   replace U:=U.oz [2,3,4,5,10]
   refine wp_region_lit ?_
   refine k9 U (.move rfl<|.inc (k+1)<|.assign rfl .nil) fun Y U =>?_
   refine wpList_nil ?_
   show ∃ n',n'<_∧_
   have hstep:L3.set k (lr h9 (max fl fl2))=((Hk.take (k+1)).map (fun h=>lr h (max fl fl2))++Hk.drop (k+1)):=by rw[hL3];exact oP hes
   exact⟨H.length - (k+1),by omega,k+1,_,_,_,_,_,_,by omega,rfl,hstep,U.only [2,3,4,5,10],bm.ren [(1,1),(2,2),(9,9),(10,10),(11,11),(12,12)] (by decide)⟩
  intro ah U;try simp only [QQ,Qax] at ah
  revert U
  obtain rfl:k=H.length:=by have:=ah;first|omega|(simp at this;omega)
  intro U
  refine wcf U ?_
  refine wp_exit ?_
  refine bK _ _ ?_
  refine zsr fun dp bO =>?_
  refine k9 U (.move rfl<|.fa 6 rfl U39 .nil) fun Y U =>?_
  refine plz (st1 U be 10 x8 fun cS bn _ =>?_)
  refine znl (bO _ _ ?_)
  replace U:=U.oz [2,3,4,5,10]
  refine zsr fun dq bP =>?_
  refine k9 U (.loadBR bn (i:=10) rfl rfl U39 rfl lH (by simp) (by dsimp only [List.drop,List.take] <;> rfl) .nil) fun Y U =>?_
  refine plz (stw U bn 12 lH fun cT aM _ =>?_)
  refine znl (bP _ _ ?_)
  refine rtd (mK (fn:=Tryz.f18) U aM (i:=12) rfl rfl rfl U39 rfl lH ?_)
  have hend:L3=Hk.map (fun h=>lr h (max fl fl2)):=by rw[hL3,← hfl,List.take_length,List.drop_length,List.append_nil]
  rw[hend,hHk] at aM
  exact⟨_,_,rfl,aM.ren [(1,1),(2,2),(9,9)] (by decide)⟩
 refine st1 U ap 10 l3 fun cU bo _ =>?_
 refine⟨fun h=>(Bool.false_ne_true (h.symm.trans (by rfl))).elim,?_⟩
 refine se 8 ?_
 refine e_y U rfl (mH U bo (i:=11) rfl rfl rfl U2 rfl) fun Y U =>?_
 refine goB ao [9,12] 2 3583 8191 U (.p (fun _ _ h_=>oK h_ rfl rfl rfl)<|.fa 5 rfl U39 .nil) fun Y U =>?_
 refine se 13 ?_
 refine st1 U bo 10 l3 fun cV bp _ =>?_
 refine wad ?_
 refine bb _ _ ?_
 refine wsk fun dr bQ =>?_
 replace U:=U.oz [2,3,4,5,6]
 refine la U (.assign rfl .nil) fun Y U =>?_
 refine wp_block ?_
 refine wp_loop_ghost (fun g a w => ∃ (k gA gB gR:Nat) (L3:List (List Ver)) (p9:Option Addr) (c9:Nat),k≤H.length∧g=H.length - k∧L3=((Hk.take k).map (fun h=>lr h (max fl fl2))++Hk.drop k)∧Has 132 [(2,.pointer (some ⟨gA,0,none⟩)),(3,.pointer (some ⟨gB,0,none⟩)),(4,.pointer (some ⟨gR,0,none⟩)),(5,.slice p9 H.length c9),(10,.int .i64 k)] a∧MemOk X w0 [(1,.dat (.slice p H.length c) (.l 1 (H.map hD))),(2,.dat (.slice pw W.length cw) (.l 2 (W.map wrD))),(9,.row (.slice p9 H.length c9) 94 1 (L3.map hD)),(10,.box gA 39 [.int .i64 vo,.int .i64 ch,.int .i64 cn,.int .i64 sz,.int .i64 (max mk to),.int .i64 (max fl fl2),.slice p H.length c]),(11,.box gB 25 [.int .i64 vo,.int .i64 ch,.int .i64 cn,.int .i64 sz,.int .i64 fr,.int .i64 to,.int .i64 fl2,.slice pw W.length cw]),(12,.box gR 39 [.int .i64 0,.int .i64 0,.int .i64 0,.int .i64 0,.int .i64 0,.int .i64 0,.slice none 0 0])] w) (H.length) ?_ ?_
 · exact⟨0,_,_,_,Hk,_,_,Nat.zero_le _,rfl,by simp,U.only [2,3,4,5,10],bp.ren [(1,1),(2,2),(9,9),(10,10),(11,11),(12,12)] (by decide)⟩
 clear U bp
 rintro g Y cW ⟨k,gA,gB,gR,L3,p9,c9,hkl,hg3,hL3,U,bq⟩
 refine wsk fun ds bR =>?_
 refine la U (.move rfl<|.move rfl<|.len rfl U37<|.lss rfl rfl .nil) fun Y U =>?_
 refine bc U 116 ?_ ?_
 ·
  intro ai U;try simp only [QQ,Qax] at ai
  have hk:k<H.length:=by have:=ai;first|omega|(simp at this;omega)
  obtain⟨h9,hes⟩:∃ e,Hk[k]? = some e:=⟨_,List.getElem?_eq_getElem (by omega)⟩
  have hes9:L3[k]? = some h9:=by rw[hL3];exact qD hes
  have hLl:L3.length=H.length:=by rw[hL3,List.length_append,List.length_map,List.length_take,List.length_drop];omega
  have hh9:=hHB.at (List.mem_of_getElem? hes)
  refine wct U ?_
  refine zss (bR _ _ ?_)
  refine wsk fun dt bS =>?_
  refine wp_block ?_
  obtain⟨cg,ci,br,aN⟩:=bq.openC (i:=9) rfl (Nat.lt_of_le_of_lt (Nat.zero_le (k)) (by first|omega|(rw[List.length_map];omega)))
  revert U
  cases br
  intro U
  obtain⟨cj,bs,bt⟩:=aN.eltC (i:=9) rfl (k) (r:=[.l 2 (h9.map itD)]) (mS hes9)
  revert U
  rcases bt with _|⟨ae,_|_⟩
  obtain⟨cX,cY,bu,ck⟩:=ae.l_shape;subst bu
  intro U
  have bT:=aN.dat 200 rfl (ae.cast (fun _ h=>h));clear aN ae
  have aO:=bT.oz [1,2,9,10,11,12,200]
  refine region_p 10 (B:=[(1,_),(2,_),(9,_),(10,_),(11,_),(12,_),(200,_)]) (aO.to i7l) aO (by kernel_rfl) (fun cZ aD ax =>?_);clear aO
  refine goR aD [0,1,2,3,4,5,6,7] [5,7] 8 0 255 U (ax.to i7l) (.move rfl<|.move rfl<|.move rfl<|.move rfl<|.p (fun _ _ h_=>li h_ rfl rfl U37 mJ (k) rfl (by first|omega|(rw[List.length_map];omega)))<|.c (fun _ hW _ h_=>nM h_ hW (i:=9) rfl (k) bs rfl U94 rfl)<|.fa 5 rfl U39<|.lb hh 10 U2 rfl rfl rfl .nil) fun Y U =>?_
  refine so 8 ?_
  refine ecl U Tryz.func56 rfl (sZ _ h9 (max fl fl2) _ _ _ _ hh9.2.1 hh9.1 (ax.into [(1,200)] (by decide) rfl)) ?_
  rintro e c0 ⟨c1,c2,rfl,aE⟩
  have bv:=ax.back aE [(200,1),(201,9)] (by decide);clear aE ax
  have aP:=bv.oz [200,201,1,2,9,10,11,12]
  refine⟨_,rfl,?_⟩;intro Y U
  refine⟨aP.to i7l,?_⟩
  refine goA aD [9] 1 511 1023 U (aP.to i7l) (.p (fun _ _ h_=>li h_ rfl rfl U37 mJ (k) rfl (by omega)) .nil) fun Y U =>?_
  have bw:=aP.closeC 9 rfl
  refine se 10 ?_
  refine nN U bw 9 rfl (k) (by rw[List.length_map];omega) rfl rfl rfl rfl mJ (bw.rd (i:=201) rfl) fun c3 bx =>?_
  have hset:(L3.map hD).set k [D.l 2 ((lr h9 (max fl fl2)).map itD)]=(L3.set k (lr h9 (max fl fl2))).map hD:=by rw[List.map_set];rfl
  rw[hset] at bx
  refine wad ?_
  refine bS _ _ ?_
  replace U:=U.oz [2,3,4,5,10]
  refine wp_region_lit ?_
  refine k9 U (.move rfl<|.inc (k+1)<|.assign rfl .nil) fun Y U =>?_
  refine wpList_nil ?_
  show ∃ n',n'<_∧_
  have hstep:L3.set k (lr h9 (max fl fl2))=((Hk.take (k+1)).map (fun h=>lr h (max fl fl2))++Hk.drop (k+1)):=by rw[hL3];exact oP hes
  exact⟨H.length - (k+1),by omega,k+1,_,_,_,_,_,_,by omega,rfl,hstep,U.only [2,3,4,5,10],bx.ren [(1,1),(2,2),(9,9),(10,10),(11,11),(12,12)] (by decide)⟩
 intro ai U;try simp only [QQ,Qax] at ai
 revert U
 obtain rfl:k=H.length:=by have:=ai;first|omega|(simp at this;omega)
 intro U
 refine wcf U ?_
 refine wp_exit ?_
 refine bQ _ _ ?_
 refine zsr fun du bU =>?_
 refine k9 U (.move rfl<|.fa 6 rfl U39 .nil) fun Y U =>?_
 refine plz (st1 U bq 10 x8 fun c4 bz _ =>?_)
 refine znl (bU _ _ ?_)
 replace U:=U.oz [2,3,4,5,10]
 refine zsr fun dv bV =>?_
 refine k9 U (.loadBR bz (i:=10) rfl rfl U39 rfl lH (by simp) (by dsimp only [List.drop,List.take] <;> rfl) .nil) fun Y U =>?_
 refine plz (stw U bz 12 lH fun c5 aQ _ =>?_)
 refine znl (bV _ _ ?_)
 refine rtd (mK (fn:=Tryz.f18) U aQ (i:=12) rfl rfl rfl U39 rfl lH ?_)
 have hend:L3=Hk.map (fun h=>lr h (max fl fl2)):=by rw[hL3,← hfl,List.take_length,List.drop_length,List.append_nil]
 rw[hend,hHk] at aQ
 exact⟨_,_,rfl,aQ.ren [(1,1),(2,2),(9,9)] (by decide)⟩
end
section
theorem yc:lR Tryz.prog 30 [.int .i64 0,.slice none 0 0]=true:=by kernel_rfl
theorem ye:lR Tryz.prog 78 [.int .i64 0,.slice none 0 0]=true:=by kernel_rfl
structure Pu where
 (vo ch cn sz fr to fl:Int)
 W:List (Int×List (Int×List Int))
def puD(q:Pu):List D:=[.v (.int .i64 q.vo),.v (.int .i64 q.ch),.v (.int .i64 q.cn),.v (.int .i64 q.sz),.v (.int .i64 q.fr),.v (.int .i64 q.to),.v (.int .i64 q.fl),.l 2 (q.W.map wrD)]
def PuQ(q:Pu):Prop:=nA q.vo q.ch q.cn q.sz q.fr q.to q.fl q.W
def WOk(n:Nat)(W:List (Int×List (Int×List Int))):Prop:=W.length≤n∧∀ e∈W,e.2.length≤1000000∧∀ x∈e.2,lg x.2
theorem WOk.up{n m:Nat}{W:List (Int×List (Int×List Int))}(h:WOk n W)(hm:n≤m):WOk m W:=⟨Nat.le_trans h.1 hm,h.2⟩
theorem WOk.len{n:Nat}{W:List (Int×List (Int×List Int))}(h:WOk n W):∀ e∈W,e.2.length≤1000000:=fun e he=>(h.2 e he).1
theorem yf{n:Nat}{W:List (Int×List (Int×List Int))}(h:WOk n W)(s b:Int):WOk (n+1) (W++[(s,[(b,[1])])]):=⟨by rw[List.length_append,List.length_singleton];have:=h.1;omega,fun e he=>by
 rcases List.mem_append.1 he with he|he
 · exact h.2 e he
 rw[List.mem_singleton.1 he]
 exact⟨by simp,fun x hx=>by rw[List.mem_singleton.1 hx];intro z hz;simp at hz;omega⟩⟩
noncomputable def nj(cv cc cn cs mk fl:Int)(H:List (List Ver))(q:Pu):Int×Int×List (List Ver):=by
 classical exact if PuQ q∧cv=q.vo∧cc=q.ch∧cn=q.cn∧cs=q.sz∧q.fr≤mk then (max mk q.to,max fl q.fl,(lP mk H q.W).map (fun h=>lr h (max fl q.fl))) else (mk,fl,H)
theorem vM{h:List Ver}{s:Int}{d:List Int}:(mN h s d).length≤h.length+1:=by
 unfold mN;split
 · rw[List.length_append];simp
 omega
theorem sK{s:Int}:∀ {l:Its} {N:Nat} {H:Hs},(∀ h∈H,h.length≤N)→∀ h∈pT s H l,h.length≤N+l.length
 | [],N,H,hH=>fun h hh=>hH h hh
 | x :: l,N,H,hH=>by
   show ∀ h∈pT s (H.set x.1.toNat (mN (H.getD x.1.toNat []) s x.2)) l,h.length≤N+(l.length+1)
   have hg:(H.getD x.1.toNat []).length≤N:=by
     rw[List.getD]
     cases h:H[x.1.toNat]? with
     | none=>exact Nat.zero_le _
     | some z=>exact hH z (List.mem_of_getElem? h)
   intro h hh
   have:=sK (s:=s) (l:=l) (N:=N+1) (H:=H.set x.1.toNat (mN (H.getD x.1.toNat []) s x.2)) (fun y hy=>by
     rcases List.mem_or_eq_of_mem_set hy with h1|h1
     · have:=hH y h1;omega
     rw[h1];have:=vM (h:=H.getD x.1.toNat []) (s:=s) (d:=x.2);omega) h hh
   omega
theorem qX{m:Int}:∀ {W:List (Int×List (Int×List Int))} {N:Nat} {H:Hs},(∀ h∈H,h.length≤N)→(∀ e∈W,e.2.length≤8)→∀ h∈lP m H W,h.length≤N+8*W.length
 | [],N,H,hH,_=>fun h hh=>hH h hh
 | e :: W,N,H,hH,hW=>by
   show ∀ h∈lP m (if e.1≤m then H else pT e.1 H e.2) W,h.length≤N+8*(W.length+1)
   intro h hh
   have:=qX (m:=m) (W:=W) (N:=N+8) (H:=if e.1≤m then H else pT e.1 H e.2) (fun y hy=>by
     split at hy
     · have:=hH y hy;omega
     have h1:=sK (N:=N) hH y hy;have:=hW e List.mem_cons_self;omega) (fun y hy=>hW y (List.mem_cons_of_mem _ hy)) h hh
   omega
theorem nk{cv cc cn cs mk fl:Int}{H:List (List Ver)}{q:Pu}(hok:HB 900000 H):(nj cv cc cn cs mk fl H q).2.2.length=H.length∧∀ h∈(nj cv cc cn cs mk fl H q).2.2,h.length≤1000000:=by
 unfold nj
 split
 · rename_i hP
   refine⟨by rw[List.length_map,lU],fun h hh =>?_⟩
   obtain⟨g,hg,rfl⟩:=List.mem_map.1 hh
   have h8:∀ e∈q.W,e.2.length≤8:=fun e he=>by
     obtain⟨k,hk⟩:=List.getElem?_of_mem he
     exact oy hP.1 (xs:=e.1) (xl:=e.2) hk
   have h1:=qX (m:=mk) (N:=900000) (fun y hy=>(hok y hy).2.1) h8 g hg
   have h4:q.W.length≤4:=hP.1.2.2.2.2.1
   unfold lr
   rw[List.length_drop];omega
 exact⟨rfl,fun h hh=>by have:=(hok h hh).2.1;omega⟩
theorem xm(X:Cx)(n:Nat)(vo ch cn sz fr to fl:Int)(W:List (Int×List (Int×List Int)))(what v:Int)(hn:n≤1000)(hq:WOk n W)(hwh:0≤what∧what≤255)(p:Option Addr)(nw c:Nat)(w0:World)(m0:MemOk X w0 [(1,.dat (.slice p nw c) (.l 2 (W.map wrD)))] w0) :
   Calls Tryz.prog 11 #[.agg #[.int .i64 vo,.int .i64 ch,.int .i64 cn,.int .i64 sz,.int .i64 fr,.int .i64 to,.int .i64 fl,.slice p nw c],.int .u8 what,.int .i64 v] w0 fun e w' => ∃ (v0 v1 v2 v3 v4 v5 v6:Int) (V:List (Int×List (Int×List Int))) (p9:Option Addr) (c9:Nat),WOk (n+1) V∧e=.returned (.agg #[.int .i64 v0,.int .i64 v1,.int .i64 v2,.int .i64 v3,.int .i64 v4,.int .i64 v5,.int .i64 v6,.slice p9 (V.map wrD).length c9])∧MemOk X w0 [(1,.dat (.slice p nw c) (.l 2 (W.map wrD))),(9,.dat (.slice p9 (V.map wrD).length c9) (.l 2 (V.map wrD)))] w':=by
 refine qr Tryz.func11 rfl Tryz.ntmps11 fun Y U =>?_
 have hWl:=hq.1
 obtain rfl:nw=(W.map wrD).length:=by rw[List.length_map];exact nX (m0.rd (i:=1) rfl)
 refine zsr fun K0 hK0 =>?_
 refine plz (ly U m0 30 (cs:=[_,_,_,_,_,_,_,_]) rfl rfl rfl fun g1 Y w2 U m2 _ _ =>?_)
 refine plz (lc U m2 31 mL rfl fun g3 Y w4 U m4 _ _ =>?_)
 refine znl (hK0 _ _ ?_)
 refine wsk fun K1 hK1 =>?_
 refine la U (.move rfl<|.rem rfl rfl (by decide) rfl .nil) fun Y U =>?_
 refine wp_block ?_
 refine la U (.eql rfl rfl<|.assign rfl .nil) fun Y U =>?_
 refine bc U 23 ?_ ?_
 ·
  intro hb9 U;try simp only [QQ,Qax] at hb9
  refine wct U ?_
  refine wp_region_lit ?_
  refine k9 U (.move rfl<|.fa 0 rfl U25 .nil) fun Y U =>?_
  refine plz (st1 U m4 30 ma fun a1 aB _ =>?_)
  refine znl (hK1 _ _ ?_)
  replace U:=U.oz [3,6,25]
  refine zsr fun K2 hK2 =>?_
  refine k9 U (.loadBR aB (i:=30) rfl rfl U25 rfl lF (by simp) (by dsimp only [List.drop,List.take] <;> rfl) .nil) fun Y U =>?_
  refine plz (stw U aB 31 lF fun a2 ap _ =>?_)
  refine znl (hK2 _ _ ?_)
  refine rtd (mK (fn:=Tryz.f11) U ap (i:=31) rfl rfl rfl U25 rfl lF ?_)
  have aJ:=ap.dat 9 rfl (ap.rd (i:=1) rfl)
  refine⟨_,_,_,_,_,_,_,W,_,_,?_,rfl,aJ.ren [(1,1),(9,9)] (by decide)⟩
  exact hq.up (Nat.le_succ n)
 intro hb9 U;try simp only [QQ,Qax] at hb9
 refine wcf U ?_
 refine la U (.eql rfl rfl<|.assign rfl .nil) fun Y U =>?_
 refine bc U 27 ?_ ?_
 ·
  intro aa U;try simp only [QQ,Qax] at aa
  refine wct U ?_
  replace U:=U.oz [2,3,6,8]
  refine wp_region_lit ?_
  refine k9 U (.move rfl<|.fa 1 rfl U25 .nil) fun Y U =>?_
  refine plz (st1 U m4 30 ma fun a3 aC _ =>?_)
  refine znl (hK1 _ _ ?_)
  refine zsr fun K3 hK3 =>?_
  refine k9 U (.loadBR aC (i:=30) rfl rfl U25 rfl lF (by simp) (by dsimp only [List.drop,List.take] <;> rfl) .nil) fun Y U =>?_
  refine plz (stw U aC 31 lF fun a4 aq _ =>?_)
  refine znl (hK3 _ _ ?_)
  refine rtd (mK (fn:=Tryz.f11) U aq (i:=31) rfl rfl rfl U25 rfl lF ?_)
  have aK:=aq.dat 9 rfl (aq.rd (i:=1) rfl)
  refine⟨_,_,_,_,_,_,_,W,_,_,?_,rfl,aK.ren [(1,1),(9,9)] (by decide)⟩
  exact hq.up (Nat.le_succ n)
 intro aa U;try simp only [QQ,Qax] at aa
 refine wcf U ?_
 replace U:=U.oz [2,3,6,8]
 refine la U (.eql rfl rfl<|.assign rfl .nil) fun Y U =>?_
 refine bc U 31 ?_ ?_
 ·
  intro ab U;try simp only [QQ,Qax] at ab
  refine wct U ?_
  refine wp_region_lit ?_
  refine k9 U (.move rfl<|.and rfl rfl rfl<|.fa 2 rfl U25 .nil) fun Y U =>?_
  refine plz (st1 U m4 30 ma fun a5 aD _ =>?_)
  refine znl (hK1 _ _ ?_)
  replace U:=U.oz [3,6]
  refine zsr fun K4 hK4 =>?_
  refine k9 U (.loadBR aD (i:=30) rfl rfl U25 rfl lF (by simp) (by dsimp only [List.drop,List.take] <;> rfl) .nil) fun Y U =>?_
  refine plz (stw U aD 31 lF fun a6 ar _ =>?_)
  refine znl (hK4 _ _ ?_)
  refine rtd (mK (fn:=Tryz.f11) U ar (i:=31) rfl rfl rfl U25 rfl lF ?_)
  have aL:=ar.dat 9 rfl (ar.rd (i:=1) rfl)
  refine⟨_,_,_,_,_,_,_,W,_,_,?_,rfl,aL.ren [(1,1),(9,9)] (by decide)⟩
  exact hq.up (Nat.le_succ n)
 intro ab U;try simp only [QQ,Qax] at ab
 refine wcf U ?_
 refine la U (.eql rfl rfl<|.assign rfl .nil) fun Y U =>?_
 refine bc U 36 ?_ ?_
 ·
  intro ac U;try simp only [QQ,Qax] at ac
  refine wct U ?_
  refine wp_region_lit ?_
  refine k9 U (.move rfl<|.and rfl rfl rfl<|.fa 3 rfl U25 .nil) fun Y U =>?_
  refine plz (st1 U m4 30 ma fun a7 aE _ =>?_)
  refine znl (hK1 _ _ ?_)
  replace U:=U.oz [3,6]
  refine zsr fun K5 hK5 =>?_
  refine k9 U (.loadBR aE (i:=30) rfl rfl U25 rfl lF (by simp) (by dsimp only [List.drop,List.take] <;> rfl) .nil) fun Y U =>?_
  refine plz (stw U aE 31 lF fun a8 au _ =>?_)
  refine znl (hK5 _ _ ?_)
  refine rtd (mK (fn:=Tryz.f11) U au (i:=31) rfl rfl rfl U25 rfl lF ?_)
  have aM:=au.dat 9 rfl (au.rd (i:=1) rfl)
  refine⟨_,_,_,_,_,_,_,W,_,_,?_,rfl,aM.ren [(1,1),(9,9)] (by decide)⟩
  exact hq.up (Nat.le_succ n)
 intro ac U;try simp only [QQ,Qax] at ac
 refine wcf U ?_
 refine la U (.eql rfl rfl<|.assign rfl .nil) fun Y U =>?_
 refine bc U 41 ?_ ?_
 ·
  intro ad U;try simp only [QQ,Qax] at ad
  refine wct U ?_
  replace U:=U.oz [2,3,6,8]
  refine wp_region_lit ?_
  refine k9 U (.move rfl<|.fa 4 rfl U25 .nil) fun Y U =>?_
  refine plz (st1 U m4 30 l3 fun a9 aF _ =>?_)
  refine znl (hK1 _ _ ?_)
  refine zsr fun K6 hK6 =>?_
  refine k9 U (.loadBR aF (i:=30) rfl rfl U25 rfl lF (by simp) (by dsimp only [List.drop,List.take] <;> rfl) .nil) fun Y U =>?_
  refine plz (stw U aF 31 lF fun ba av _ =>?_)
  refine znl (hK6 _ _ ?_)
  refine rtd (mK (fn:=Tryz.f11) U av (i:=31) rfl rfl rfl U25 rfl lF ?_)
  have aN:=av.dat 9 rfl (av.rd (i:=1) rfl)
  refine⟨_,_,_,_,_,_,_,W,_,_,?_,rfl,aN.ren [(1,1),(9,9)] (by decide)⟩
  exact hq.up (Nat.le_succ n)
 intro ad U;try simp only [QQ,Qax] at ad
 refine wcf U ?_
 replace U:=U.oz [2,3,6,8]
 refine la U (.eql rfl rfl<|.assign rfl .nil) fun Y U =>?_
 refine bc U 45 ?_ ?_
 ·
  intro ae U;try simp only [QQ,Qax] at ae
  refine wct U ?_
  refine wp_region_lit ?_
  refine k9 U (.move rfl<|.fa 5 rfl U25 .nil) fun Y U =>?_
  refine plz (st1 U m4 30 l3 fun bb aG _ =>?_)
  refine znl (hK1 _ _ ?_)
  replace U:=U.oz [3,6]
  refine zsr fun K7 hK7 =>?_
  refine k9 U (.loadBR aG (i:=30) rfl rfl U25 rfl lF (by simp) (by dsimp only [List.drop,List.take] <;> rfl) .nil) fun Y U =>?_
  refine plz (stw U aG 31 lF fun bd aw _ =>?_)
  refine znl (hK7 _ _ ?_)
  refine rtd (mK (fn:=Tryz.f11) U aw (i:=31) rfl rfl rfl U25 rfl lF ?_)
  have aO:=aw.dat 9 rfl (aw.rd (i:=1) rfl)
  refine⟨_,_,_,_,_,_,_,W,_,_,?_,rfl,aO.ren [(1,1),(9,9)] (by decide)⟩
  exact hq.up (Nat.le_succ n)
 intro ae U;try simp only [QQ,Qax] at ae
 refine wcf U ?_
 refine la U (.eql rfl rfl<|.assign rfl .nil) fun Y U =>?_
 refine bc U 49 ?_ ?_
 ·
  intro ag U;try simp only [QQ,Qax] at ag
  refine wct U ?_
  refine wp_region_lit ?_
  refine k9 U (.move rfl<|.fa 6 rfl U25 .nil) fun Y U =>?_
  refine plz (st1 U m4 30 l3 fun be aH _ =>?_)
  refine znl (hK1 _ _ ?_)
  replace U:=U.oz [3,6]
  refine zsr fun K8 hK8 =>?_
  refine k9 U (.loadBR aH (i:=30) rfl rfl U25 rfl lF (by simp) (by dsimp only [List.drop,List.take] <;> rfl) .nil) fun Y U =>?_
  refine plz (stw U aH 31 lF fun bf ax _ =>?_)
  refine znl (hK8 _ _ ?_)
  refine rtd (mK (fn:=Tryz.f11) U ax (i:=31) rfl rfl rfl U25 rfl lF ?_)
  have aP:=ax.dat 9 rfl (ax.rd (i:=1) rfl)
  refine⟨_,_,_,_,_,_,_,W,_,_,?_,rfl,aP.ren [(1,1),(9,9)] (by decide)⟩
  exact hq.up (Nat.le_succ n)
 intro ag U;try simp only [QQ,Qax] at ag
 refine wcf U ?_
 refine wp_region_lit ?_
 refine k9 U (.fa 7 rfl U25<|.lb m4 30 U23 rfl rfl rfl .nil) fun Y U =>?_
 have aI:=m4.nilR 32 30 2
 refine plz (lC U aI 32 rfl rfl rfl (aI.rd (i:=1) rfl) U23 oM rfl rfl (by decide) (by simp only [List.length_nil,List.length_map];omega) rfl fun bg bh Y bi U aQ =>?_)
 refine k9 U (.move rfl<|.and rfl rfl rfl<|.move rfl<|.and rfl rfl rfl .nil) fun Y U =>?_
 refine plz (lj U aQ 33 (k:=.u8) rfl rfl U22 lJ rfl rfl rfl rfl fun bj Y bk U aR =>?_)
 refine k9 U (.build rfl pz ye rfl (by dsimp only [l9,List.set] <;> rfl) .nil) fun Y U =>?_
 have ai:=aR.freezeN 33 rfl
 refine plz (lq U ai 34 (mm:=2) rfl (.cons rfl rfl (.cons (.v _) (.cons (ai.rd (i:=33) rfl) .nil)) .nil) U28 ow rfl rfl rfl rfl rfl fun aS Y aT U ay =>?_)
 refine k9 U (.build rfl rJ yc rfl (by dsimp only [l9,List.set] <;> rfl) .nil) fun Y U =>?_
 have aj:=ay.freezeR 34 rfl
 refine plz (lq U aj 35 (mm:=2) rfl (.cons rfl rfl (.cons (.v _) (.cons (aj.rd (i:=34) rfl) .nil)) .nil) U23 oM rfl rfl rfl rfl rfl fun aU Y aV U az =>?_)
 have ak:=az.freezeR 35 rfl
 refine plz (lC U ak 32 rfl rfl rfl (ak.rd (i:=35) rfl) U23 oM rfl rfl (by decide) (by simp only [List.length_append,List.length_nil,List.length_map,List.length_cons];omega) rfl fun aW aX Y aY U aA =>?_)
 refine k9 U (.fieldAddr (off:=7) rfl U25 rfl (s:=0) (by kernel_rfl) rfl .nil) fun Y U =>?_
 refine plz (st1 U aA 30 uf fun aZ al _ =>?_)
 refine znl (hK1 _ _ ?_)
 replace U:=U.oz [3,6]
 refine zsr fun K9 hK9 =>?_
 refine k9 U (.loadBR al (i:=30) rfl rfl U25 rfl lF (by simp) (by dsimp only [List.drop,List.take] <;> rfl) .nil) fun Y U =>?_
 refine plz (stw U al 31 lF fun a0 ao _ =>?_)
 refine znl (hK9 _ _ ?_)
 refine rtd (mK (fn:=Tryz.f11) U ao (i:=31) rfl rfl rfl U25 rfl lF ?_)
 have ah:=ao.freezeR 32 rfl
 simp only [List.nil_append] at ah
 simp only [List.nil_append]
 have hE:∀ z b:Int,W.map wrD++[[D.v (.int .i64 z),.l 2 [[.v (.int .i64 b),.ns .u8 [1]]]]]=(W++[(z,[(b,[1])])]).map wrD:=fun z b=>by rw[List.map_append];rfl
 rw[hE] at ah
 rw[hE]
 refine⟨_,_,_,_,_,_,_,W++[(_,[(_,[1])])],_,_,?_,rfl,ah.ren [(1,1),(9,32)] (by decide)⟩
 exact yf hq _ _
theorem o8(X:Cx)(cv cc cn cs mk fl:Int)(H:List (List Ver))(q:Pu)(p pw:Option Addr)(nn c cw:Nat)(w0:World)(hok:HB 900000 H)(hH:(H.length:Int)=cn)(hl:H.length≤1000000)(hq:WOk 1000 q.W)(m0:MemOk X w0 [(1,.dat (.slice p nn c) (.l 1 (H.map hD))),(2,.dat (.slice pw (q.W.map wrD).length cw) (.l 2 (q.W.map wrD)))] w0) :
   Calls Tryz.prog 17 #[.agg #[.int .i64 cv,.int .i64 cc,.int .i64 cn,.int .i64 cs,.int .i64 mk,.int .i64 fl,.slice p nn c],.agg #[.int .i64 q.vo,.int .i64 q.ch,.int .i64 q.cn,.int .i64 q.sz,.int .i64 q.fr,.int .i64 q.to,.int .i64 q.fl,.slice pw (q.W.map wrD).length cw]] w0 fun e w' => ∃ (p9:Option Addr) (c9:Nat),e=.returned (.agg #[.int .i64 cv,.int .i64 cc,.int .i64 cn,.int .i64 cs,.int .i64 (nj cv cc cn cs mk fl H q).1,.int .i64 (nj cv cc cn cs mk fl H q).2.1,.slice p9 (nj cv cc cn cs mk fl H q).2.2.length c9])∧MemOk X w0 [(1,.dat (.slice p nn c) (.l 1 (H.map hD))),(2,.dat (.slice pw (q.W.map wrD).length cw) (.l 2 (q.W.map wrD))),(9,.dat (.slice p9 (nj cv cc cn cs mk fl H q).2.2.length c9) (.l 1 ((nj cv cc cn cs mk fl H q).2.2.map hD)))] w':=by
 have hnn:nn=H.length:=nX (m0.rd (i:=1) rfl)
 subst hnn
 unfold nj
 split
 · rename_i hP
   obtain⟨h1,rfl,rfl,rfl,rfl,h6⟩:=hP
   refine(sL X q.vo q.ch q.cn q.sz mk fl q.fr q.to q.fl H q.W p pw H.length c (q.W.map wrD).length cw w0 hok hH h1 h6 m0).mono ?_
   rintro e w' ⟨p9,c9,he,hm⟩
   have hlen:((lP mk H q.W).map (fun h=>lr h (max fl q.fl))).length=H.length:=by rw[List.length_map,lU]
   refine⟨p9,c9,?_,?_⟩
   · dsimp only;rw[hlen];exact he
   dsimp only;rw[hlen];exact(hm.freezeR 9 rfl).only [1,2,9]
 rename_i hP
 refine(tA X cv cc cn cs mk fl q.vo q.ch q.cn q.sz q.fr q.to q.fl H q.W p pw H.length c (q.W.map wrD).length cw w0 hl hok (by have:=hq.1;omega) hq.len hP m0).mono ?_
 rintro e w' ⟨p9,c9,he,hm⟩
 exact⟨p9,c9,he,(hm.freezeR 9 rfl).only [1,2,9]⟩
theorem sM(X:Cx)(cv cc cn cs mk fl:Int)(H:List (List Ver))(q:Pu)(p pw:Option Addr)(nn c cw:Nat)(w0:World)(hok:HB 900000 H)(hH:(H.length:Int)=cn)(hl:H.length≤1000000)(hq:WOk 1000 q.W)(m0:MemOk X w0 [(1,.dat (.slice p nn c) (.l 1 (H.map hD))),(2,.dat (.slice pw (q.W.map wrD).length cw) (.l 2 (q.W.map wrD)))] w0) :
   Calls Tryz.prog 18 #[.agg #[.int .i64 cv,.int .i64 cc,.int .i64 cn,.int .i64 cs,.int .i64 mk,.int .i64 fl,.slice p nn c],.agg #[.int .i64 q.vo,.int .i64 q.ch,.int .i64 q.cn,.int .i64 q.sz,.int .i64 q.fr,.int .i64 q.to,.int .i64 q.fl,.slice pw (q.W.map wrD).length cw]] w0 fun e w' => ∃ (p9:Option Addr) (c9:Nat),e=.returned (.agg #[.int .i64 cv,.int .i64 cc,.int .i64 cn,.int .i64 cs,.int .i64 (nj cv cc cn cs mk fl H q).1,.int .i64 (nj cv cc cn cs mk fl H q).2.1,.slice p9 (nj cv cc cn cs mk fl H q).2.2.length c9])∧MemOk X w0 [(1,.dat (.slice p nn c) (.l 1 (H.map hD))),(2,.dat (.slice pw (q.W.map wrD).length cw) (.l 2 (q.W.map wrD))),(9,.dat (.slice p9 (nj cv cc cn cs mk fl H q).2.2.length c9) (.l 1 ((nj cv cc cn cs mk fl H q).2.2.map hD)))] w':=by
 have hnn:nn=H.length:=nX (m0.rd (i:=1) rfl)
 subst hnn
 unfold nj
 split
 · rename_i hP
   obtain⟨h1,rfl,rfl,rfl,rfl,h6⟩:=hP
   refine(sN X q.vo q.ch q.cn q.sz mk fl q.fr q.to q.fl H q.W p pw H.length c (q.W.map wrD).length cw w0 hok hH h1 h6 m0).mono ?_
   rintro e w' ⟨p9,c9,he,hm⟩
   have hlen:((lP mk H q.W).map (fun h=>lr h (max fl q.fl))).length=H.length:=by rw[List.length_map,lU]
   refine⟨p9,c9,?_,?_⟩
   · dsimp only;rw[hlen];exact he
   dsimp only;rw[hlen];exact(hm.freezeR 9 rfl).only [1,2,9]
 rename_i hP
 refine(tx X cv cc cn cs mk fl q.vo q.ch q.cn q.sz q.fr q.to q.fl H q.W p pw H.length c (q.W.map wrD).length cw w0 (by have:=hq.1;omega) hq.len hP m0).mono ?_
 rintro e w' ⟨he,hm⟩
 exact⟨p,c,he,hm.dat 9 rfl (hm.rd (i:=1) rfl) |>.ren [(1,1),(2,2),(9,9)] (by decide)⟩
end
end Go.Proofs.YteglmahnkfgelaaGreat.K
