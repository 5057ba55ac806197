/- General laws of walks. -/
import Derived.Test.YteglmahnkfgelaaGreatG16
import Derived.Test.YteglmahnkfgelaaGreatG15
import Derived.Test.YteglmahnkfgelaaGreatG9
import Derived.Test.YteglmahnkfgelaaGreatG1
namespace Go.Proofs.YteglmahnkfgelaaGreat.K
open Go.ChangeShapes Go.WideShapes Go.ChangeAt Go.RowKit
set_option linter.unusedVariables false
set_option linter.unusedSimpArgs false
set_option maxRecDepth 100000
set_option maxHeartbeats 4000000
set_option autoImplicit true
set_option relaxedAutoImplicit true
section
def HB(n:Nat)(H:List (List Ver)):Prop:=∀ h∈H,Rise h∧h.length≤n∧(∀ v∈h,v.2.length≤1000000)∧n≤1000000
theorem HB.up{n m:Nat}{H:List (List Ver)}(h:HB n H)(hm:n≤m)(hm2:m≤1000000:=by omega):HB m H:=fun x hx=>⟨(h x hx).1,by have:=(h x hx).2.1;omega,(h x hx).2.2.1,hm2⟩
theorem HB.at{n:Nat}{H:List (List Ver)}(h:HB n H){x:List Ver}(hx:x∈H):Rise x∧x.length≤1000000∧∀ v∈x,v.2.length≤1000000:=⟨(h x hx).1,by have:=(h x hx).2;omega,(h x hx).2.2.1⟩
theorem HB.ok{n:Nat}{H:List (List Ver)}(h:HB n H):vr H:=fun x hx=>(h.at hx).2
theorem qV{h:List Ver}(hr:Rise h)(s:Int)(d:List Int):Rise (mN h s d):=by
 unfold mN
 split
 · rename_i hc
   refine List.pairwise_append.2 ⟨hr,by simp,fun a ha b hb =>?_⟩
   rw[List.mem_singleton.1 hb]
   show a.1<s
   obtain⟨j,hj,rfl⟩:=List.getElem_of_mem ha
   rcases hc.2 with h0|h1
   · subst h0;simp at hj
   have:=hr.low (j:=h.length - 1) (q:=j) (t:=(h.getD (h.length - 1) v0).1) (by omega) (Int.le_refl _) (by omega)
   have e9:h.getD j v0=h[j]:=by rw[List.getD,List.getElem?_eq_getElem hj];rfl
   rw[e9] at this
   omega
 exact hr
theorem HB.set{n:Nat}{H:List (List Ver)}(h:HB n H){x:List Ver}(hx:Rise x){s:Int}{d:List Int}(hd:d.length≤1000000){i:Nat}(hn:n+1≤1000000)(hxm:x∈H:=by exact List.mem_of_getElem? (by assumption)):HB (n+1) (H.set i (mN x s d)):=fun y hy=>by
 rcases List.mem_or_eq_of_mem_set hy with hy|rfl
 · exact(h.up (Nat.le_succ n) hn) y hy
 have hx2:=h x hxm
 refine⟨qV hx s d,?_,?_,hn⟩
 · unfold mN;split
   · rw[List.length_append];simp;omega
   omega
 unfold mN;split
 · intro v hv
   rcases List.mem_append.1 hv with hv|hv
   · exact hx2.2.2.1 v hv
   rw[List.mem_singleton.1 hv];exact hd
 exact hx2.2.2.1
theorem nl{m:Int}{H:List (List Ver)}{W:List (Int×List (Int×List Int))}{k:Nat}{xs:Int}{xl:List (Int×List Int)}(hes:W[k]? = some (xs,xl)):lP m H (W.take (k+1))=if xs≤m then lP m H (W.take k) else pT xs (lP m H (W.take k)) xl:=by
 unfold lP
 rw[ln hes,List.foldl_append];rfl
theorem rc{s:Int}{H:List (List Ver)}{l:List (Int×List Int)}{j:Nat}{xb:Int}{xd:List Int}(hxs:l[j]? = some (xb,xd)):pT s H (l.take (j+1))=(pT s H (l.take j)).set xb.toNat (mN ((pT s H (l.take j)).getD xb.toNat []) s xd):=by
 unfold pT
 rw[ln hxs,List.foldl_append];rfl
theorem qD{H:List (List Ver)}{f:Int}{k:Nat}{x:List Ver}(hes:H[k]? = some x):((H.take k).map (fun h=>lr h f)++H.drop k)[k]? = some x:=by
 have hk:=(List.getElem?_eq_some_iff.1 hes).1
 rw[List.getElem?_append_right (by rw[List.length_map,List.length_take];omega),List.length_map,List.length_take,List.getElem?_drop,show k+(k - min k H.length)=k by omega]
 exact hes
theorem oP{H:List (List Ver)}{f:Int}{k:Nat}{x:List Ver}(hes:H[k]? = some x):((H.take k).map (fun h=>lr h f)++H.drop k).set k (lr x f)=(H.take (k+1)).map (fun h=>lr h f)++H.drop (k+1):=by
 have hk:=(List.getElem?_eq_some_iff.1 hes).1
 rw[List.set_append_right _ _ (by rw[List.length_map,List.length_take];omega),List.length_map,List.length_take,show k - min k H.length=0 by omega,ln hes,List.map_append,List.append_assoc]
 congr 1
 rw[List.drop_eq_getElem_cons hk]
 rfl
theorem nI{vo ch cn sz fr to fl2:Int}{W:List (Int×List (Int×List Int))}(hP:nA vo ch cn sz fr to fl2 W){k:Nat}{xs:Int}{xl:List (Int×List Int)}(hes:W[k]? = some (xs,xl)):∀ {j:Nat} {xb:Int} {xd:List Int},xl[j]? = some (xb,xd)→(0≤xb∧xb<cn)∧(xd.length≤32∧xl.length≤8):=fun {j xb xd} hxs=>by
 have hk:=(List.getElem?_eq_some_iff.1 hes).1
 have h1:=(hP.2.2.2.2.2 k hk).2.2
 rw[show W.getD k w1=(xs,xl) by rw[List.getD,hes];rfl] at h1
 have hj:=(List.getElem?_eq_some_iff.1 hxs).1
 have h2:=h1.2.2 j hj
 rw[sI hxs] at h2
 have h3:=hP.1.2.2.2
 have h4:(xd.length:Int)=sz:=h2.2.2.1
 exact⟨⟨h2.1,h2.2.1⟩,by omega,h1.2.1⟩
theorem oy{vo ch cn sz fr to fl2:Int}{W:List (Int×List (Int×List Int))}(hP:nA vo ch cn sz fr to fl2 W){k:Nat}{xs:Int}{xl:List (Int×List Int)}(hes:W[k]? = some (xs,xl)):xl.length≤8:=by
 have hk:=(List.getElem?_eq_some_iff.1 hes).1
 have h1:=(hP.2.2.2.2.2 k hk).2.2
 rw[show W.getD k w1=(xs,xl) by rw[List.getD,hes];rfl] at h1
 exact h1.2.1
theorem oA{vo ch cn sz fr to fl2:Int}{W:List (Int×List (Int×List Int))}(hP:nA vo ch cn sz fr to fl2 W):∀ e∈W,e.2.length≤1000000:=fun e he=>by
 obtain⟨k,hk,rfl⟩:=List.getElem_of_mem he
 have h1:=(hP.2.2.2.2.2 k hk).2.2
 rw[List.getD,List.getElem?_eq_getElem hk] at h1
 have:=h1.2.1
 simp at this
 omega
theorem sL(X:Cx)(vo ch cn sz mk fl fr to fl2:Int)(H:List (List Ver))(W:List (Int×List (Int×List Int)))(p pw:Option Addr)(nn c nw cw:Nat)(w0:World)(hok:HB 900000 H)(hH:(H.length:Int)=cn)(hP:nA vo ch cn sz fr to fl2 W)(hfm:fr≤mk)(m0:MemOk X w0 [(1,.dat (.slice p nn c) (.l 1 (H.map hD))),(2,.dat (.slice pw nw cw) (.l 2 (W.map wrD)))] w0) :
   Calls Tryz.prog 17 #[.agg #[.int .i64 vo,.int .i64 ch,.int .i64 cn,.int .i64 sz,.int .i64 mk,.int .i64 fl,.slice p nn c],.agg #[.int .i64 vo,.int .i64 ch,.int .i64 cn,.int .i64 sz,.int .i64 fr,.int .i64 to,.int .i64 fl2,.slice pw nw cw]] w0 fun e w' => ∃ (p9:Option Addr) (c9:Nat),e=.returned (.agg #[.int .i64 vo,.int .i64 ch,.int .i64 cn,.int .i64 sz,.int .i64 (max mk to),.int .i64 (max fl fl2),.slice p9 nn c9])∧MemOk X w0 [(1,.dat (.slice p nn c) (.l 1 (H.map hD))),(2,.dat (.slice pw nw cw) (.l 2 (W.map wrD))),(9,.row (.slice p9 nn c9) 94 1 (((lP mk H W).map (fun h=>lr h (max fl fl2))).map hD))] w':=by
 refine mR Tryz.func17 rfl Tryz.ntmps17 fun Y U =>?_
 have hl:H.length≤1000000:=by have:=hP.1.2.2.1;omega
 have hok0:=hok.ok
 have hWl:=hP.2.2.2.2.1
 have hW:=oA hP
 have hnn:nn=H.length:=nX (m0.rd (i:=1) rfl)
 have hnw:nw=W.length:=nX (m0.rd (i:=2) rfl)
 revert U
 subst hnn;subst hnw
 intro U
 refine zsr fun K0 hK0 =>?_
 refine plz (ly U m0 30 (cs:=[_,_,_,_,_,_,_]) rfl rfl rfl fun g1 Y w2 U m2 _ _ =>?_)
 refine plz (ly U m2 31 (cs:=[_,_,_,_,_,_,_,_]) rfl rfl rfl fun g3 Y w4 U m4 _ _ =>?_)
 refine plz (lc U m4 32 oV rfl fun g5 Y w6 U m6 _ _ =>?_)
 refine znl (hK0 _ _ ?_)
 refine zsr fun K1 hK1 =>?_
 refine k9 U (.loadBR m6 (i:=30) rfl rfl U39 rfl lH (by simp) (by dsimp only [List.drop,List.take] <;> rfl) .nil) fun Y U =>?_
 refine plz (ecl U Tryz.func51 rfl (sJ _ vo ch cn sz mk fl H _ _ _ hl hok0 (m6.into [(1,1)] (by decide) rfl)) ?_)
 rintro e w9 ⟨p9,c9,rfl,hm9⟩
 have mx9:=m6.back hm9 [(1,1),(9,9)] (by decide);clear hm9 m6
 have m9:=mx9.oz [1,9,2,30,31,32]
 refine⟨_,rfl,?_⟩;intro Y U
 refine plz (stw U m9 30 lH fun ci bJ _ =>?_)
 refine znl (hK1 _ _ ?_)
 refine wsk fun K2 hK2 =>?_
 refine wsk fun K3 hK3 =>?_
 have aZ:=bJ.oz [1,2,9,30,31,32]
 refine region_p 25 (B:=[(1,_),(2,_),(9,_),(30,_),(31,_),(32,_)]) (aZ.to i6l) aZ (by kernel_rfl) (fun cj ah aV =>?_);clear aZ
 refine goR ah [0] [0] 1 0 1 U (aV.to i6l) (.loadBR hh (i:=31) rfl rfl U25 rfl lF (by simp) (by dsimp only [List.drop,List.take] <;> rfl) .nil) fun Y U =>?_
 refine so 1 ?_
 refine ecl U Tryz.func14 rfl (nh _ vo ch cn sz fr to fl2 W _ _ _ _ (by omega) hW (aV.into [(1,2)] (by decide) rfl)) ?_
 rintro e ck ⟨bp9,rfl,hbp,aG⟩
 have a0:=aV.back aG [(2,1)] (by decide);clear aG aV
 have aW:=a0.oz [2,1,9,30,31,32]
 refine⟨_,rfl,?_⟩;intro Y U
 refine⟨aW.to i6l,?_⟩
 refine goA ah [2,3] 2 3 15 U (aW.to i6l) (.not rfl<|.move rfl .nil) fun Y U =>?_
 refine bc U 16 ?_ ?_
 · intro hb _;exact absurd hb (by rw[hbp.2 hP];simp)
 clear U;intro _ U
 refine goR ah [4,6] [4,6] 2 15 95 U (aW.to i6l) (.loadBR hh (i:=30) rfl rfl U39 rfl lH (by simp) (by dsimp only [List.drop,List.take] <;> rfl)<|.loadBR hh (i:=31) rfl rfl U25 rfl lF (by simp) (by dsimp only [List.drop,List.take] <;> rfl) .nil) fun Y U =>?_
 refine lh 5 rfl (by kernel_rfl) (lA U rfl rfl rfl rfl) (fun K hK =>?_)
 refine lG U Tryz.func52 rfl rfl rfl rfl (nK _ _ _ _ _ _ _ _) ?_
 rintro e cl ⟨rfl,a1⟩
 have bz:=aW.later a1
 refine⟨_,rfl,?_⟩;intro Y U
 refine hK _ _ (bz.to i6l) ?_;clear hK K
 refine lh 7 rfl (by kernel_rfl) (lA U rfl rfl rfl rfl) (fun K hK =>?_)
 refine lG U Tryz.func44 rfl rfl rfl rfl (qw _ _ _ _ _ _ _ _ _ _ _) ?_
 rintro e cm ⟨rfl,a2⟩
 have aw:=bz.later a2
 refine⟨_,rfl,?_⟩;intro Y U
 refine hK _ _ (aw.to i6l) ?_;clear hK K
 refine goA ah [8,9,10] 3 255 2047 U (aw.to i6l) (.p (fun _ _ h_=>xk h_ rfl rfl)<|.pickF rfl rfl<|.move rfl .nil) fun Y U =>?_
 refine bcF U 23 fun U =>?_
 refine goR ah [11,12,13,14,15,16,17] [12,14] 7 2047 262143 U (aw.to i6l) (.fa 4 rfl U39<|.lb hh 30 U2 rfl rfl rfl<|.fa 4 rfl U25<|.lb hh 31 U2 rfl rfl rfl<|.lss rfl rfl<|.pickF rfl rfl<|.move rfl .nil) fun Y U =>?_
 refine bcO U 30 fun U =>?_
 refine goR ah [18,19,20,21,22,23,24] [19,22] 7 262143 33554431 U (aw.to i6l) (.fa 6 rfl U39<|.lb hh 30 U37 rfl rfl rfl<|.len rfl U37<|.fa 2 rfl U39<|.lb hh 30 U3 rfl rfl rfl<|.neq rfl rfl<|.pickF rfl rfl .nil) fun Y U =>?_
 refine wad ?_
 refine hK3 _ _ ?_
 refine bcO U 37 fun U =>?_
 refine wcf U ?_
 refine zss (hK2 _ _ ?_)
 refine wsk fun K4 hK4 =>?_
 replace U:=U.oz [2,3,4]
 refine la U (.fa 7 rfl U25<|.lb aw 31 U23 rfl rfl rfl<|.len rfl U23<|.move rfl .nil) fun Y U =>?_
 refine wp_block ?_
 refine wp_loop_ghost (fun g a w => ∃ (k gA gB gR:Nat) (Hk:List (List Ver)) (p9:Option Addr) (c9:Nat),k≤W.length∧g=W.length - k∧Hk=lP mk H (W.take k)∧HB (900000+8*k) Hk∧Has 106 [(2,.pointer (some ⟨gA,0,none⟩)),(3,.pointer (some ⟨gB,0,none⟩)),(4,.pointer (some ⟨gR,0,none⟩)),(40,.slice pw W.length cw),(41,.int .i64 W.length),(42,.int .i64 k)] a∧MemOk X w0 [(1,.dat (.slice p H.length c) (.l 1 (H.map hD))),(2,.dat (.slice pw W.length cw) (.l 2 (W.map wrD))),(9,.row (.slice p9 H.length c9) 94 1 (Hk.map hD)),(10,.box gA 39 [.int .i64 vo,.int .i64 ch,.int .i64 cn,.int .i64 sz,.int .i64 mk,.int .i64 fl,.slice p9 H.length c9]),(11,.box gB 25 [.int .i64 vo,.int .i64 ch,.int .i64 cn,.int .i64 sz,.int .i64 fr,.int .i64 to,.int .i64 fl2,.slice pw W.length cw]),(12,.box gR 39 [.int .i64 0,.int .i64 0,.int .i64 0,.int .i64 0,.int .i64 0,.int .i64 0,.slice none 0 0])] w) (W.length) ?_ ?_
 · exact⟨0,_,_,_,H,_,_,Nat.zero_le _,rfl,rfl,hok.up (by omega),U.only [2,3,4,40,41,42],aw.ren [(1,1),(2,2),(9,9),(10,30),(11,31),(12,32)] (by decide)⟩
 clear U aw
 rintro g Y co ⟨k,gA,gB,gR,Hk,p9,c9,hkl,hg,hHk,hHB,U,aX⟩
 refine la U (.lss rfl rfl .nil) fun Y U =>?_
 refine wsk fun K5 hK5 =>?_
 refine bc U 43 ?_ ?_
 ·
  intro aj U;try simp only [QQ,Qax] at aj
  have hk:k<W.length:=by have:=aj;first|omega|(simp at this;omega)
  obtain⟨⟨xs,xl⟩,hes⟩:∃ e,W[k]? = some e:=⟨_,List.getElem?_eq_getElem hk⟩
  have hit:∀ {j:Nat} {xb:Int} {xd:List Int},xl[j]? = some (xb,xd)→(0≤xb∧xb<cn)∧(xd.length≤32∧xl.length≤8):=fun h7=>nI hP hes h7
  have hx8:xl.length≤8:=oy hP hes
  have hml:(xl.map itD).length=xl.length:=List.length_map _
  refine wct U ?_
  refine zss (hK5 _ _ ?_)
  refine wsk fun K6 hK6 =>?_
  refine wp_block ?_
  refine zsr fun K7 hK7 =>?_
  obtain⟨a3,a4,bK,a5,a6,a7,bA⟩:=aX.openR (i:=2) rfl (k) (r:=[.v (.int .i64 xs),.l 2 (xl.map itD)]) (mj hes) 100 rfl
  revert U
  cases a5;clear aX a7
  rcases a6 with _|⟨ak,_|⟨ac,_|_⟩⟩
  obtain rfl:=ak.v_out
  clear ak
  obtain⟨cp,cq,a8,bL⟩:=ac.l_shape;subst a8
  intro U
  have bB:=bA.dat 101 rfl (ac.cast (fun _ h=>(lf rfl h)));clear bA ac
  refine k9 U (.c rfl (fun _ h_=>li h_ rfl rfl U23 nV (k) rfl hk)<|.loadCR bB (i:=100) rfl rfl U30 rfl nV .nil) fun Y U =>?_
  refine plz (lc U bB 102 rJ rfl fun cr Y ct U bM _ _ =>?_)
  refine plz (stw U bM 102 nV fun cu aF _ =>?_)
  refine znl (hK7 _ _ ?_)
  refine wsk fun K8 hK8 =>?_
  refine la U (.fa 0 rfl U30<|.lb aF 102 U2 rfl rfl rfl<|.fa 4 rfl U39<|.lb aF 10 U2 rfl rfl rfl<|.leq rfl rfl .nil) fun Y U =>?_
  refine bc U 50 ?_ ?_
  ·
   intro al U;try simp only [QQ,Qax] at al
   have hle:xs≤mk:=by have:=al;first|omega|(simp at this;omega)
   refine wct U ?_
   refine wp_exit ?_
   refine hK6 _ _ ?_
   replace U:=U.oz [2,3,4,40,41,42,50]
   refine wp_region_lit ?_
   refine k9 U (.inc (k+1)<|.move rfl .nil) fun Y U =>?_
   refine wpList_nil ?_
   show ∃ n',n'<_∧_
   have hstep:Hk=lP mk H (W.take (k+1)):=by rw[nl hes,if_pos hle];exact hHk
   exact⟨W.length - (k+1),by omega,k+1,_,_,_,Hk,_,_,by omega,rfl,hstep,hHB.up (by omega),U.only [2,3,4,40,41,42],aF.ren [(1,1),(2,2),(9,9),(10,10),(11,11),(12,12)] (by decide)⟩
  intro al U;try simp only [QQ,Qax] at al
  have hgt:mk<xs:=by have:=al;first|omega|(simp at this;omega)
  refine wcf U ?_
  refine zss (hK8 _ _ ?_)
  replace U:=U.oz [2,3,4,40,41,42,6,50]
  refine la U (.fa 1 rfl U30<|.lb aF 102 U28 rfl rfl rfl<|.len rfl U28<|.move rfl .nil) fun Y U =>?_
  refine wp_block ?_
  refine wp_loop_ghost (fun g a w => ∃ (j gA gB gR gW:Nat) (L2:List (List Ver)) (p9:Option Addr) (c9:Nat) (px:Option Addr) (cx:Nat),j≤xl.length∧g=xl.length - j∧L2=pT xs Hk (xl.take j)∧L2.length=H.length∧HB (900000+8*k+j) L2∧Has 106 [(2,.pointer (some ⟨gA,0,none⟩)),(3,.pointer (some ⟨gB,0,none⟩)),(4,.pointer (some ⟨gR,0,none⟩)),(6,.pointer (some ⟨gW,0,none⟩)),(40,.slice (some ⟨a3,a4,none⟩) W.length cw),(41,.int .i64 W.length),(42,.int .i64 k),(52,.slice px (xl.map itD).length cx),(53,.int .i64 (xl.map itD).length),(54,.int .i64 j)] a∧MemOk X w0 [(1,.dat (.slice p H.length c) (.l 1 (H.map hD))),(2,.dat (.slice (some ⟨a3,a4,none⟩) W.length cw) (.l 2 (W.map wrD))),(9,.row (.slice p9 H.length c9) 94 1 (L2.map hD)),(10,.box gA 39 [.int .i64 vo,.int .i64 ch,.int .i64 cn,.int .i64 sz,.int .i64 mk,.int .i64 fl,.slice p9 H.length c9]),(11,.box gB 25 [.int .i64 vo,.int .i64 ch,.int .i64 cn,.int .i64 sz,.int .i64 fr,.int .i64 to,.int .i64 fl2,.slice (some ⟨a3,a4,none⟩) W.length cw]),(12,.box gR 39 [.int .i64 0,.int .i64 0,.int .i64 0,.int .i64 0,.int .i64 0,.int .i64 0,.slice none 0 0]),(13,.box gW 30 [.int .i64 xs,.slice px (xl.map itD).length cx]),(14,.dat (.slice px (xl.map itD).length cx) (.l 2 (xl.map itD)))] w) (xl.length) ?_ ?_
  · exact⟨0,_,_,_,_,Hk,_,_,_,_,Nat.zero_le _,rfl,rfl,by rw[hHk,lU],hHB,U.only [2,3,4,6,40,41,42,52,53,54],aF.ren [(1,1),(2,2),(9,9),(10,10),(11,11),(12,12),(13,102),(14,101)] (by decide)⟩
  clear U aF
  rintro g Y cv ⟨j,gA,gB,gR,gW,L2,p9,c9,px,cx,hjl,hg2,hL2,hLl,hLB,U,a9⟩
  refine la U (.lss rfl rfl .nil) fun Y U =>?_
  refine wsk fun K9 hK9 =>?_
  refine bc U 55 ?_ ?_
  ·
   intro ao U;try simp only [QQ,Qax] at ao
   have hj:j<xl.length:=by have:=ao;first|(rw[List.length_map] at this;omega)|(simp at this;omega)
   obtain⟨⟨xb,xd⟩,hxs⟩:∃ e,xl[j]? = some e:=⟨_,List.getElem?_eq_getElem hj⟩
   have hxb:=(hit hxs).1
   have hxd:xd.length≤1000000:=by have:=(hit hxs).2;omega
   obtain⟨h9,hes9⟩:∃ e,L2[xb.toNat]? = some e:=⟨_,List.getElem?_eq_getElem (by omega)⟩
   have hx9:L2.getD xb.toNat []=h9:=by rw[List.getD,hes9];rfl
   have hh9:=hLB.at (List.mem_of_getElem? hes9)
   refine wct U ?_
   refine zss (hK9 _ _ ?_)
   refine wsk fun cy ba =>?_
   refine wp_block ?_
   refine zsr fun cz bb =>?_
   obtain⟨cA,cB,bN,bd,be,bf,bC⟩:=a9.openR (i:=14) rfl (j) (r:=[.v (.int .i64 xb),.ns .u8 xd]) (lm hxs) 200 rfl
   revert U
   cases bd;clear a9 bf
   rcases be with _|⟨ap,_|⟨ad,_|_⟩⟩
   obtain rfl:=ap.v_out
   clear ap
   obtain⟨cC,cD,bg,bO⟩:=ad.ns_shape;subst bg
   intro U
   have bE:=bC.dat 201 rfl (ad.cast (fun _ h=>(lf rfl h)));clear bC ad
   refine k9 U (.c rfl (fun _ h_=>li h_ rfl rfl U28 lX (j) rfl (by rw[List.length_map];omega))<|.loadCR bE (i:=200) rfl rfl U78 rfl lX .nil) fun Y U =>?_
   refine plz (lc U bE 202 pz rfl fun cE Y cF U bP _ _ =>?_)
   refine plz (stw U bP 202 lX fun cG bQ _ =>?_)
   refine znl (bb _ _ ?_)
   obtain⟨bR,bS,bh,bi⟩:=bQ.openC (i:=9) rfl (Nat.lt_of_le_of_lt (Nat.zero_le (xb.toNat)) (by first|omega|(rw[List.length_map];omega)))
   revert U
   cases bh
   intro U
   obtain⟨bT,bj,bk⟩:=bi.eltC (i:=9) rfl (xb.toNat) (r:=[.l 2 (h9.map itD)]) (mS hes9)
   revert U
   rcases bk with _|⟨ae,_|_⟩
   obtain⟨cH,cI,bm,bU⟩:=ae.l_shape;subst bm
   intro U
   have bV:=bi.dat 203 rfl (ae.cast (fun _ h=>h));clear bi ae
   have bn:=bV.oz [1,2,9,10,11,12,13,14,200,201,202,203]
   refine region_p 16 (B:=[(1,_),(2,_),(9,_),(10,_),(11,_),(12,_),(13,_),(14,_),(200,_),(201,_),(202,_),(203,_)]) (bn.to Ab) bn (by kernel_rfl) (fun cJ aH aY =>?_);clear bn
   refine goR aH [0,1,2,3,4,5,6,7,8,9,10,11,12,13] [1,3,5,7,9,11,13] 14 0 16383 U (aY.to Ab) (.fa 6 rfl U39<|.lb hh 10 U37 rfl rfl rfl<|.fa 0 rfl U78<|.lb hh 202 U3 rfl rfl rfl<|.fa 6 rfl U39<|.lb hh 10 U37 rfl rfl rfl<|.fa 0 rfl U78<|.lb hh 202 U3 rfl rfl rfl<|.p (fun _ _ h_=>li h_ rfl rfl U37 mJ (xb.toNat) (Int.toNat_of_nonneg hxb.1).symm (by first|omega|(rw[List.length_map];omega)))<|.c (fun _ hW _ h_=>nM h_ hW (i:=9) rfl (xb.toNat) bj rfl U94 rfl)<|.fa 0 rfl U30<|.lb hh 13 U2 rfl rfl rfl<|.fa 1 rfl U78<|.lb hh 202 U22 rfl rfl rfl .nil) fun Y U =>?_
   refine so 14 ?_
   refine ecl U Tryz.func53 rfl (zx _ h9 xs xd _ _ _ _ _ _ hh9.2.1 hh9.2.2 hxd (aY.into [(1,203),(2,201)] (by decide) rfl)) ?_
   rintro e bW ⟨bX,bY,rfl,ar⟩
   have aI:=aY.back ar [(203,1),(201,2),(204,9)] (by decide);clear ar aY
   have ax:=aI.oz [203,201,204,1,2,9,10,11,12,13,14,200,202]
   refine⟨_,rfl,?_⟩;intro Y U
   refine⟨ax.to Ab,?_⟩
   refine goA aH [15] 1 32767 65535 U (ax.to Ab) (.p (fun _ _ h_=>li h_ rfl rfl U37 mJ (xb.toNat) (Int.toNat_of_nonneg hxb.1).symm (by omega)) .nil) fun Y U =>?_
   have aJ:=ax.closeC 9 rfl
   refine se 16 ?_
   refine nN U aJ 9 rfl (xb.toNat) (by rw[List.length_map];omega) rfl rfl rfl rfl mJ (aJ.rd (i:=204) rfl) fun bZ aK =>?_
   have hset:(L2.map hD).set xb.toNat [D.l 2 ((mN h9 xs xd).map itD)]=(L2.set xb.toNat (mN h9 xs xd)).map hD:=by rw[List.map_set];rfl
   rw[hset] at aK
   refine wad ?_
   refine ba _ _ ?_
   replace U:=U.oz [2,3,4,6,40,41,42,52,53,54]
   refine wp_region_lit ?_
   refine k9 U (.inc (j+1)<|.move rfl .nil) fun Y U =>?_
   refine wpList_nil ?_
   show ∃ n',n'<_∧_
   exact⟨xl.length - (j+1),by omega,j+1,_,_,_,_,L2.set xb.toNat (mN h9 xs xd),_,_,_,_,by omega,rfl,by rw[rc hxs,← hL2,hx9],by rw[List.length_set];exact hLl,hLB.set hh9.1 hxd (by omega),U.only [2,3,4,6,40,41,42,52,53,54],aK.ren [(1,1),(2,2),(9,9),(10,10),(11,11),(12,12),(13,13),(14,14)] (by decide)⟩
  intro ao U;try simp only [QQ,Qax] at ao
  revert U
  obtain rfl:j=xl.length:=by have:=ao;first|(rw[List.length_map] at this;omega)|(simp at this;omega)
  intro U
  rw[List.take_length] at hL2
  refine wcf U ?_
  refine wp_exit ?_
  refine hK6 _ _ ?_
  refine wp_region_lit ?_
  refine k9 U (.inc (k+1)<|.move rfl .nil) fun Y U =>?_
  refine wpList_nil ?_
  show ∃ n',n'<_∧_
  have hstep:L2=lP mk H (W.take (k+1)):=by rw[nl hes,if_neg (by omega),← hHk];exact hL2
  exact⟨W.length - (k+1),by omega,k+1,_,_,_,L2,_,_,by omega,rfl,hstep,hLB.up (by omega),U.only [2,3,4,40,41,42],a9.ren [(1,1),(2,2),(9,9),(10,10),(11,11),(12,12)] (by decide)⟩
 intro aj U;try simp only [QQ,Qax] at aj
 revert U
 obtain rfl:k=W.length:=by have:=aj;first|omega|(simp at this;omega)
 intro U
 rw[List.take_length] at hHk
 have hfl:Hk.length=H.length:=by rw[hHk,lU]
 refine wcf U ?_
 refine wp_exit ?_
 refine hK4 _ _ ?_
 refine wsk fun bo bp =>?_
 have aL:∀ (a:Act) (w:World),(∃ (gA gB gR:Nat) (p9:Option Addr) (c9:Nat),Has 106 [(2,.pointer (some ⟨gA,0,none⟩)),(3,.pointer (some ⟨gB,0,none⟩)),(4,.pointer (some ⟨gR,0,none⟩))] a∧MemOk X w0 [(1,.dat (.slice p H.length c) (.l 1 (H.map hD))),(2,.dat (.slice pw W.length cw) (.l 2 (W.map wrD))),(9,.row (.slice p9 H.length c9) 94 1 (Hk.map hD)),(10,.box gA 39 [.int .i64 vo,.int .i64 ch,.int .i64 cn,.int .i64 sz,.int .i64 (max mk to),.int .i64 (max fl fl2),.slice p9 H.length c9]),(11,.box gB 25 [.int .i64 vo,.int .i64 ch,.int .i64 cn,.int .i64 sz,.int .i64 fr,.int .i64 to,.int .i64 fl2,.slice pw W.length cw]),(12,.box gR 39 [.int .i64 0,.int .i64 0,.int .i64 0,.int .i64 0,.int .i64 0,.int .i64 0,.slice none 0 0])] w)→bo a w:=by
   clear U aX
   rintro Y b0 ⟨gA,gB,gR,p9,c9,U,ay⟩
   refine bp _ _ ?_
   refine wsk fun cK bq =>?_
   refine la U (.fa 6 rfl U39<|.lb ay 10 U37 rfl rfl rfl<|.len rfl U37<|.move rfl .nil) fun Y U =>?_
   refine wp_block ?_
   refine wp_loop_ghost (fun g a w => ∃ (k gA gB gR:Nat) (L3:List (List Ver)) (p9:Option Addr) (c9:Nat),k≤H.length∧g=H.length - k∧L3=((Hk.take k).map (fun h=>lr h (max fl fl2))++Hk.drop k)∧Has 106 [(2,.pointer (some ⟨gA,0,none⟩)),(3,.pointer (some ⟨gB,0,none⟩)),(4,.pointer (some ⟨gR,0,none⟩)),(89,.slice p9 H.length c9),(90,.int .i64 H.length),(91,.int .i64 k)] a∧MemOk X w0 [(1,.dat (.slice p H.length c) (.l 1 (H.map hD))),(2,.dat (.slice pw W.length cw) (.l 2 (W.map wrD))),(9,.row (.slice p9 H.length c9) 94 1 (L3.map hD)),(10,.box gA 39 [.int .i64 vo,.int .i64 ch,.int .i64 cn,.int .i64 sz,.int .i64 (max mk to),.int .i64 (max fl fl2),.slice p9 H.length c9]),(11,.box gB 25 [.int .i64 vo,.int .i64 ch,.int .i64 cn,.int .i64 sz,.int .i64 fr,.int .i64 to,.int .i64 fl2,.slice pw W.length cw]),(12,.box gR 39 [.int .i64 0,.int .i64 0,.int .i64 0,.int .i64 0,.int .i64 0,.int .i64 0,.slice none 0 0])] w) (H.length) ?_ ?_
   · exact⟨0,_,_,_,Hk,_,_,Nat.zero_le _,rfl,by simp,U.only [2,3,4,89,90,91],ay.ren [(1,1),(2,2),(9,9),(10,10),(11,11),(12,12)] (by decide)⟩
   clear U ay
   rintro g Y b1 ⟨k,gA,gB,gR,L3,p9,c9,hkl,hg3,hL3,U,az⟩
   refine la U (.lss rfl rfl .nil) fun Y U =>?_
   refine wsk fun cL br =>?_
   refine bc U 92 ?_ ?_
   ·
    intro ab U;try simp only [QQ,Qax] at ab
    have hk:k<H.length:=by have:=ab;first|omega|(simp at this;omega)
    obtain⟨h9,hes⟩:∃ e,Hk[k]? = some e:=⟨_,List.getElem?_eq_getElem (by omega)⟩
    have hes9:L3[k]? = some h9:=by rw[hL3];exact qD hes
    have hLl:L3.length=H.length:=by rw[hL3,List.length_append,List.length_map,List.length_take,List.length_drop];omega
    have hh9:=hHB.at (List.mem_of_getElem? hes)
    refine wct U ?_
    refine zss (br _ _ ?_)
    refine wsk fun cM bs =>?_
    refine wp_block ?_
    refine zsr fun cN bt =>?_
    refine k9 U (.move rfl .nil) fun Y U =>?_
    obtain⟨bF,bG,aM,aA⟩:=az.openC (i:=9) rfl (Nat.lt_of_le_of_lt (Nat.zero_le (k)) (show k<(L3.map hD).length by rw[List.length_map];omega))
    revert U
    cases aM
    intro U
    obtain⟨bH,aN,aO⟩:=aA.eltC (i:=9) rfl (k) (r:=[.l 2 (h9.map itD)]) (mS hes9)
    revert U
    rcases aO with _|⟨aa,_|_⟩
    obtain⟨b4,b5,aP,bI⟩:=aa.l_shape;subst aP
    intro U
    have aQ:=aA.dat 300 rfl (aa.cast (fun _ h=>h));clear aA aa
    refine gz bt U (.c rfl (fun _ h_=>li h_ rfl rfl U37 mJ (k) rfl (by omega))<|.c rfl (fun _ h_=>nM h_ aQ (i:=9) rfl (k) aN rfl U94 rfl)<|.assign rfl<|.assign rfl<|.nil) fun Y U =>?_
    have aB:=aQ.oz [1,2,9,10,11,12,300]
    refine region_p 8 (B:=[(1,_),(2,_),(9,_),(10,_),(11,_),(12,_),(300,_)]) (aB.to i7l) aB (by kernel_rfl) (fun b6 au aq =>?_);clear aB
    refine goR au [0,1,2,3,4,5] [1,5] 6 0 63 U (aq.to i7l) (.fa 6 rfl U39<|.lb hh 10 U37 rfl rfl rfl<|.move rfl<|.move rfl<|.fa 5 rfl U39<|.lb hh 10 U2 rfl rfl rfl .nil) fun Y U =>?_
    refine so 6 ?_
    refine ecl U Tryz.func54 rfl (sS _ h9 (max fl fl2) _ _ _ _ hh9.2.1 hh9.2.2 hh9.1 (aq.into [(1,300)] (by decide) rfl)) ?_
    rintro e b7 ⟨b8,b9,rfl,av⟩
    have aR:=aq.back av [(300,1),(301,9)] (by decide);clear av aq
    have aC:=aR.oz [300,301,1,2,9,10,11,12]
    refine⟨_,rfl,?_⟩;intro Y U
    refine⟨aC.to i7l,?_⟩
    refine goA au [7] 1 127 255 U (aC.to i7l) (.p (fun _ _ h_=>li h_ rfl rfl U37 mJ (k) rfl (by omega)) .nil) fun Y U =>?_
    have aS:=aC.closeC 9 rfl
    refine se 8 ?_
    refine nN U aS 9 rfl (k) (by rw[List.length_map];omega) rfl rfl rfl rfl mJ (aS.rd (i:=301) rfl) fun ca aT =>?_
    have hset:(L3.map hD).set k [D.l 2 ((lr h9 (max fl fl2)).map itD)]=(L3.set k (lr h9 (max fl fl2))).map hD:=by rw[List.map_set];rfl
    rw[hset] at aT
    refine wad ?_
    refine bs _ _ ?_
    replace U:=U.oz [2,3,4,89,90,91]
    refine wp_region_lit ?_
    refine k9 U (.inc (k+1)<|.move rfl .nil) fun Y U =>?_
    refine wpList_nil ?_
    show ∃ n',n'<_∧_
    have hstep:L3.set k (lr h9 (max fl fl2))=((Hk.take (k+1)).map (fun h=>lr h (max fl fl2))++Hk.drop (k+1)):=by rw[hL3];exact oP hes
    exact⟨H.length - (k+1),by omega,k+1,_,_,_,_,_,_,by omega,rfl,hstep,U.only [2,3,4,89,90,91],aT.ren [(1,1),(2,2),(9,9),(10,10),(11,11),(12,12)] (by decide)⟩
   intro ab U;try simp only [QQ,Qax] at ab
   revert U
   obtain rfl:k=H.length:=by have:=ab;first|omega|(simp at this;omega)
   intro U
   refine wcf U ?_
   refine wp_exit ?_
   refine bq _ _ ?_
   refine zsr fun cO bu =>?_
   refine k9 U (.loadBR az (i:=10) rfl rfl U39 rfl lH (by simp) (by dsimp only [List.drop,List.take] <;> rfl) .nil) fun Y U =>?_
   refine plz (stw U az 12 lH fun cb aD _ =>?_)
   refine znl (bu _ _ ?_)
   refine rtd (mK (fn:=Tryz.f17) U aD (i:=12) rfl rfl rfl U39 rfl lH ?_)
   have hend:L3=Hk.map (fun h=>lr h (max fl fl2)):=by rw[hL3,← hfl,List.take_length,List.drop_length,List.append_nil]
   rw[hend,hHk] at aD
   exact⟨_,_,rfl,aD.ren [(1,1),(2,2),(9,9)] (by decide)⟩
 have aE:=aX.oz [1,2,9,10,11,12]
 refine region_p 11 (B:=[(1,_),(2,_),(9,_),(10,_),(11,_),(12,_)]) (aE.to i6l) aE (by kernel_rfl) (fun cc ag ai =>?_);clear aE
 refine goR ag [0,1,2,3,4,5,6,7,10] [1,3,6] 9 0 1279 U (ai.to i6l) (.fa 4 rfl U39<|.lb hh 10 U2 rfl rfl rfl<|.fa 5 rfl U25<|.lb hh 11 U2 rfl rfl rfl<|.p (fun _ _ h_=>oK h_ rfl rfl rfl)<|.fa 5 rfl U39<|.lb hh 10 U2 rfl rfl rfl<|.fa 6 rfl U25<|.fa 4 rfl U39 .nil) fun Y U =>?_
 refine dtw 8 11 ?_ ?_
 ·
  refine e_y U rfl (mH U ai (i:=11) rfl rfl rfl U2 rfl) fun Y U =>?_
  refine⟨fun _=>(ai.to i6l),?_⟩
  refine goA ag [9] 1 1535 2047 U (ai.to i6l) (.p (fun _ _ h_=>oK h_ rfl rfl rfl) .nil) fun Y U =>?_
  refine se 11 ?_
  refine st1 U ai 10 l3 fun cd bv _ =>?_
  refine goB ag [12] 1 4095 8191 U (.fa 5 rfl U39 .nil) fun Y U =>?_
  refine se 13 ?_
  refine st1 U bv 10 l3 fun ce bw _ =>?_
  refine wad ?_
  show bo _ _
  exact aL _ _ ⟨_,_,_,_,_,U.only [2,3,4],bw.ren [(1,1),(2,2),(9,9),(10,10),(11,11),(12,12)] (by decide)⟩
 refine st1 U ai 10 l3 fun cf aU _ =>?_
 refine⟨fun h=>(Bool.false_ne_true (h.symm.trans (by rfl))).elim,?_⟩
 refine se 8 ?_
 refine e_y U rfl (mH U aU (i:=11) rfl rfl rfl U2 rfl) fun Y U =>?_
 refine goB ag [9,12] 2 3583 8191 U (.p (fun _ _ h_=>oK h_ rfl rfl rfl)<|.fa 5 rfl U39 .nil) fun Y U =>?_
 refine se 13 ?_
 refine st1 U aU 10 l3 fun cg bx _ =>?_
 refine wad ?_
 show bo _ _
 exact aL _ _ ⟨_,_,_,_,_,U.only [2,3,4],bx.ren [(1,1),(2,2),(9,9),(10,10),(11,11),(12,12)] (by decide)⟩
end
section
def GH(sz to:Int)(h:List Ver):Prop:=Rise h∧∀ v∈h,(1≤v.1∧v.1≤to)∧(v.2.length:Int)=sz
theorem xh(sz to:Int):GH sz to []:=⟨List.Pairwise.nil,fun v hv=>by cases hv⟩
theorem zp{sz to s:Int}{h:List Ver}{d:List Int}(hh:GH sz to h)(hs:1≤s∧s≤to)(hd:(d.length:Int)=sz):GH sz to (mN h s d):=by
 refine⟨qV hh.1 s d,fun v hv =>?_⟩
 unfold mN at hv
 split at hv
 · rcases List.mem_append.1 hv with hv|hv
   · exact hh.2 v hv
   rw[List.mem_singleton.1 hv];exact⟨hs,hd⟩
 exact hh.2 v hv
theorem Aq{sz to:Int}{H:Hs}(hH:∀ h∈H,GH sz to h)(i:Nat):GH sz to (H.getD i []):=by
 rw[List.getD]
 cases h:H[i]? with
 | none=>exact xh sz to
 | some z=>exact hH z (List.mem_of_getElem? h)
theorem uo{sz to s:Int}:∀ {l:Its} {H:Hs},(∀ h∈H,GH sz to h)→(1≤s∧s≤to)→(∀ x∈l,(x.2.length:Int)=sz)→∀ h∈pT s H l,GH sz to h
 | [],H,hH,_,_=>hH
 | x :: l,H,hH,hs,hl=>by
   show ∀ h∈pT s (H.set x.1.toNat (mN (H.getD x.1.toNat []) s x.2)) l,GH sz to h
   refine uo (fun h hh =>?_) hs (fun y hy=>hl y (List.mem_cons_of_mem _ hy))
   rcases List.mem_or_eq_of_mem_set hh with h1|h1
   · exact hH h h1
   rw[h1];exact zp (Aq hH _) hs (hl x List.mem_cons_self)
theorem sH{sz to m:Int}:∀ {W:List PWr} {H:Hs},(∀ h∈H,GH sz to h)→(∀ e∈W,(1≤e.1∧e.1≤to)∧∀ x∈e.2,(x.2.length:Int)=sz)→∀ h∈lP m H W,GH sz to h
 | [],H,hH,_=>hH
 | e :: W,H,hH,hW=>by
   show ∀ h∈lP m (if e.1≤m then H else pT e.1 H e.2) W,GH sz to h
   refine sH ?_ (fun y hy=>hW y (List.mem_cons_of_mem _ hy))
   split
   · exact hH
   exact uo hH (hW e List.mem_cons_self).1 (hW e List.mem_cons_self).2
theorem ya{vo ch cn sz fr to fl:Int}{W:List PWr}(hP:nA vo ch cn sz fr to fl W):∀ e∈W,(1≤e.1∧e.1≤to)∧∀ x∈e.2,(x.2.length:Int)=sz:=fun e he=>by
 have key:∀ k,k<W.length→fr<(W.getD k w1).1:=by
   intro k
   induction k with
   | zero=>intro h;have:=(hP.2.2.2.2.2 0 h).1;simpa using this
   | succ k ih =>
     intro h
     have h1:=(hP.2.2.2.2.2 (k+1) h).1
     rw[if_neg (by omega),Nat.add_sub_cancel] at h1
     have:=ih (by omega)
     omega
 obtain⟨k,hes⟩:=List.getElem?_of_mem he
 have hk:=(List.getElem?_eq_some_iff.1 hes).1
 have h1:=key k hk
 have h2:=hP.2.2.2.2.2 k hk
 rw[show W.getD k w1=e by rw[List.getD,hes];rfl] at h1 h2
 refine⟨⟨by have:=hP.2.2.1.1;omega,h2.2.1⟩,fun x hx =>?_⟩
 obtain⟨j,hxs⟩:=List.getElem?_of_mem hx
 have h3:=h2.2.2.2.2 j (List.getElem?_eq_some_iff.1 hxs).1
 rw[sI (e:=x) hxs] at h3
 exact h3.2.2.1
theorem Ar{sz to fl:Int}{h:List Ver}(hh:GH sz to h)(ht:to≤1099511627776):HOk sz to fl (lr h fl):=by
 have hr:Rise (lr h fl):=pX hh.1
 have hm:∀ v∈lr h fl,(1≤v.1∧v.1≤to)∧(v.2.length:Int)=sz:=fun v hv=>hh.2 v (List.mem_of_mem_drop hv)
 refine⟨fun j hj =>?_,?_,fun j hj =>?_⟩
 · have h1:=hm _ (qu hj)
   exact⟨⟨h1.1.1,by have:=h1.1.2;omega⟩,fun h0=>hr.lt (by omega) hj⟩
 · have:=od (h:=h) (n:=[]) (f:=fl) (g:=fl) (Int.le_refl _)
   rw[List.append_nil,List.append_nil] at this
   rw[this]
 have h1:=hm _ (qu hj)
 exact⟨h1.1.2,h1.2⟩
theorem uq{vo ch sz fr to fl:Int}{n:Nat}{W:List PWr}(hP:nA vo ch (n:Int) sz fr to fl W):xi vo ch (n:Int) sz (max 0 to) (max 0 fl) ((lP 0 (List.replicate n []) W).map (fun h=>lr h (max 0 fl))):=by
 have h1:=hP.2.1;have h2:=hP.2.2.2.1
 rw[Int.max_eq_right h1.1,Int.max_eq_right h2.1]
 refine⟨hP.1,h1,h2,by rw[List.length_map,lU,List.length_replicate],fun j hj =>?_⟩
 rw[List.length_map] at hj
 rw[List.getD,List.getElem?_map,List.getElem?_eq_getElem hj]
 refine Ar (sH (fun h hh =>?_) (ya hP) _ (List.getElem_mem hj)) h1.2
 rw[List.eq_of_mem_replicate hh];exact xh _ _
theorem ts{vo ch sz fr to fl:Int}{n:Nat}{W:List PWr}(hP:nA vo ch (n:Int) sz fr to fl W):xi vo ch (n:Int) sz 0 0 (List.replicate n []):=by
 refine⟨hP.1,⟨Int.le_refl _,by decide⟩,⟨Int.le_refl _,Int.le_refl _⟩,by rw[List.length_replicate],fun j hj =>?_⟩
 rw[List.length_replicate] at hj
 rw[List.getD,List.getElem?_replicate,if_pos hj]
 exact⟨fun j hj=>by simp at hj,rfl,fun j hj=>by simp at hj⟩
end
section
def rpr(h:List Ver)(f:Int)(i:Nat):List Ver:=(h.take i).drop (upN h f - 1)
theorem s3(h:List Ver)(f:Int):rpr h f 0=[]:=by unfold rpr;rw[List.take_zero,List.drop_nil]
theorem uY(h:List Ver)(f:Int):rpr h f h.length=lr h f:=by unfold rpr lr;rw[List.take_length]
theorem uX{h:List Ver}{f:Int}{i:Nat}{v:Ver}(hi:h[i]? = some v)(hu:upN h f≤i+1):rpr h f (i+1)=rpr h f i++[v]:=by
 unfold rpr
 rw[ln hi,List.drop_append_of_le_length]
 have:=(List.getElem?_eq_some_iff.1 hi).1
 rw[List.length_take];omega
theorem zI{h:List Ver}{f:Int}{i:Nat}(hu:i+1<upN h f):rpr h f (i+1)=rpr h f i:=by
 unfold rpr
 rw[List.drop_eq_nil_of_le (by rw[List.length_take];omega),List.drop_eq_nil_of_le (by rw[List.length_take];omega)]
theorem xA{h:List Ver}(hr:Rise h){f:Int}{i:Nat}(hi:i<h.length):f<(h.getD i v0).1↔upN h f≤i:=by
 constructor
 · intro hg
   rcases Nat.lt_or_ge i (upN h f) with h1|h1
   · have:=rj h1;omega
   exact h1
 intro hu
 exact hr.above hi hu
def AX(h:List Ver)(a b:Int):Bool:=decide (upN h a<h.length) && decide ((h.getD (upN h a) v0).1≤b)
def A4(H:List (List Ver))(a b:Int)(k:Nat):List Int:=((List.range k).filter fun i=>AX (H.getD i []) a b).map fun(i:Nat)=>(i:Int)
end
section
theorem sY:lR Tryz.prog 110 [.int .i64 0,.slice none 0 0]=true:=by kernel_rfl
theorem wq(vo ch cn sz:Int)(w0:World)(hsh:nW vo ch cn sz) :
   Calls Tryz.prog 48 #[.int .i64 vo,.int .i64 ch,.int .i64 cn,.int .i64 sz] w0 fun e w'=>e=.returned (.bool true)∧Below w0.heap.size w0 w':=by
 refine AK Tryz.func48 rfl Tryz.ntmps48 fun Y U =>?_
 have m0:=MemOk.start (fun _=>False) w0
 obtain⟨⟨q1,q2⟩,⟨q3,q4⟩,⟨q5,q6⟩,⟨q7,q8⟩⟩:=hsh
 refine la U (.assign rfl .nil) fun Y U =>?_
 refine zsr fun K0 hK0 =>?_
 refine k9 U (.move rfl<|.geq rfl rfl<|.move rfl .nil) fun Y U =>?_
 refine bc U 11 ?_ ?_
 rotate_left
 · intro hb _;exact absurd hb (by first|(simp;done)|(simp;omega))
 clear U;intro _ U
 refine k9 U (.moveZ rfl<|.lssZ rfl rfl<|.pickT rfl rfl<|.move rfl .nil) fun Y U =>?_
 refine bc U 15 ?_ ?_
 rotate_left
 · intro hb _;exact absurd hb (by first|(simp;done)|(simp;omega))
 clear U;intro _ U
 refine k9 U (.moveZ rfl<|.geqZ rfl rfl<|.pickT rfl rfl<|.move rfl .nil) fun Y U =>?_
 refine bc U 19 ?_ ?_
 rotate_left
 · intro hb _;exact absurd hb (by first|(simp;done)|(simp;omega))
 clear U;intro _ U
 refine k9 U (.moveZ rfl<|.lssZ rfl rfl<|.pickT rfl rfl<|.move rfl .nil) fun Y U =>?_
 refine bc U 23 ?_ ?_
 rotate_left
 · intro hb _;exact absurd hb (by first|(simp;done)|(simp;omega))
 clear U;intro _ U
 refine k9 U (.moveZ rfl<|.geqZ rfl rfl<|.pickT rfl rfl<|.move rfl .nil) fun Y U =>?_
 refine bc U 27 ?_ ?_
 rotate_left
 · intro hb _;exact absurd hb (by first|(simp;done)|(simp;omega))
 clear U;intro _ U
 refine k9 U (.moveZ rfl<|.leqZ rfl rfl<|.pickT rfl rfl<|.move rfl .nil) fun Y U =>?_
 refine bc U 31 ?_ ?_
 rotate_left
 · intro hb _;exact absurd hb (by first|(simp;done)|(simp;omega))
 clear U;intro _ U
 refine k9 U (.moveZ rfl<|.geqZ rfl rfl<|.pickT rfl rfl<|.move rfl .nil) fun Y U =>?_
 refine bc U 35 ?_ ?_
 rotate_left
 · intro hb _;exact absurd hb (by first|(simp;done)|(simp;omega))
 clear U;intro _ U
 refine gz hK0 U (.moveZ rfl<|.leqZ rfl rfl<|.pickT rfl rfl<|.assign rfl<|.nil) fun Y U =>?_
 refine rt1 U ?_
 exact⟨by(first|rfl|(simp;done)|(simp;omega)),m0.below⟩
theorem uW(X:Cx)(vo ch cn sz fr to fl:Int)(W:List (Int×List (Int×List Int)))(pw:Option Addr)(nw cw:Nat)(w0:World)(hP:nA vo ch cn sz fr to fl W)(m0:MemOk X w0 [(1,.dat (.slice pw nw cw) (.l 2 (W.map wrD)))] w0) :
   Calls Tryz.prog 15 #[.agg #[.int .i64 vo,.int .i64 ch,.int .i64 cn,.int .i64 sz,.int .i64 fr,.int .i64 to,.int .i64 fl,.slice pw nw cw]] w0 fun e w'=>e=.returned (.bool true)∧MemOk X w0 [(1,.dat (.slice pw nw cw) (.l 2 (W.map wrD)))] w':=by
 refine mp Tryz.func15 rfl Tryz.ntmps15 fun Y U =>?_
 have hW:=oA hP
 have hnw:nw=W.length:=nX (m0.rd (i:=1) rfl)
 revert U
 subst hnw
 intro U
 have hP9:=hP
 obtain⟨p1,⟨p2,p3⟩,⟨p4,p5⟩,⟨p6,p7⟩,p8,-⟩:=hP9
 refine zsr fun K0 hK0 =>?_
 refine plz (ly U m0 30 (cs:=[_,_,_,_,_,_,_,_]) rfl rfl rfl fun g1 Y w2 U m2 _ _ =>?_)
 refine gz hK0 U (.assign rfl .nil) fun Y U =>?_
 refine wsk fun K1 hK1 =>?_
 refine zsr fun K2 hK2 =>?_
 refine k9 U (.fa 0 rfl U25<|.lb m2 30 U3 rfl rfl rfl<|.fa 1 rfl U25<|.lb m2 30 U3 rfl rfl rfl<|.fa 2 rfl U25<|.lb m2 30 U3 rfl rfl rfl<|.fa 3 rfl U25<|.lb m2 30 U3 rfl rfl rfl .nil) fun Y U =>?_
 refine plz (ecb U Tryz.func48 rfl m2 (wq _ _ _ _ _ hP.1) fun Y ax U ab =>?_)
 refine k9 U (.not rfl<|.move rfl<|.faZ 4 rfl U25<|.loadB1Z ab (i:=30) rfl rfl rfl U2 rfl<|.lssZ rfl rfl<|.pickF rfl rfl<|.move rfl .nil) fun Y U =>?_
 refine bc U 21 ?_ ?_
 · intro hb _;exact absurd hb (by first|(simp;done)|(simp;omega))
 clear U;intro _ U
 refine k9 U (.faZ 4 rfl U25<|.loadB1Z ab (i:=30) rfl rfl rfl U2 rfl<|.faZ 5 rfl U25<|.loadB1Z ab (i:=30) rfl rfl rfl U2 rfl<|.gtrZ rfl rfl<|.pickF rfl rfl<|.move rfl .nil) fun Y U =>?_
 refine bc U 28 ?_ ?_
 · intro hb _;exact absurd hb (by first|(simp;done)|(simp;omega))
 clear U;intro _ U
 refine k9 U (.faZ 5 rfl U25<|.loadB1Z ab (i:=30) rfl rfl rfl U2 rfl<|.gtrZ rfl rfl<|.pickF rfl rfl<|.move rfl .nil) fun Y U =>?_
 refine bc U 33 ?_ ?_
 · intro hb _;exact absurd hb (by first|(simp;done)|(simp;omega))
 clear U;intro _ U
 refine k9 U (.faZ 6 rfl U25<|.loadB1Z ab (i:=30) rfl rfl rfl U2 rfl<|.lssZ rfl rfl<|.pickF rfl rfl<|.move rfl .nil) fun Y U =>?_
 refine bc U 38 ?_ ?_
 · intro hb _;exact absurd hb (by first|(simp;done)|(simp;omega))
 clear U;intro _ U
 refine k9 U (.faZ 6 rfl U25<|.loadB1Z ab (i:=30) rfl rfl rfl U2 rfl<|.faZ 5 rfl U25<|.loadB1Z ab (i:=30) rfl rfl rfl U2 rfl<|.gtrZ rfl rfl<|.pickF rfl rfl<|.move rfl .nil) fun Y U =>?_
 refine bc U 45 ?_ ?_
 · intro hb _;exact absurd hb (by first|(simp;done)|(simp;omega))
 clear U;intro _ U
 refine gz hK2 U (.faZ 7 rfl U25<|.loadB1Z ab (i:=30) rfl rfl rfl U23 rfl<|.lenZ rfl U23<|.gtrZ rfl rfl<|.pickF rfl rfl<|.nil) fun Y U =>?_
 refine bc U 50 ?_ ?_
 · intro hb _;exact absurd hb (by first|(simp;done)|(simp;omega))
 clear U;intro _ U
 refine wcf U ?_
 refine zss (hK1 _ _ ?_)
 replace U:=U.oz [1,2]
 refine la U (.fa 4 rfl U25<|.lb ab 30 U2 rfl rfl rfl<|.assign rfl .nil) fun Y U =>?_
 refine wsk fun K3 hK3 =>?_
 refine la U (.assign rfl .nil) fun Y U =>?_
 refine wp_block ?_
 refine wp_loop_ghost (fun g a w => ∃ (k gP:Nat),k≤W.length∧g=W.length - k∧Has 88 [(1,.pointer (some ⟨gP,0,none⟩)),(3,.int .i64 (if k=0 then fr else (W.getD (k - 1) w1).1)),(4,.int .i64 k)] a∧MemOk X w0 [(1,.dat (.slice pw W.length cw) (.l 2 (W.map wrD))),(2,.box gP 25 [.int .i64 vo,.int .i64 ch,.int .i64 cn,.int .i64 sz,.int .i64 fr,.int .i64 to,.int .i64 fl,.slice pw W.length cw])] w) (W.length) ?_ ?_
 · exact⟨0,_,Nat.zero_le _,rfl,U.only [1,3,4],ab.ren [(1,1),(2,30)] (by decide)⟩
 clear U ab
 rintro g Y ay ⟨k,gP,hkl,hg,U,ag⟩
 refine wsk fun K4 hK4 =>?_
 refine la U (.move rfl<|.fa 7 rfl U25<|.lb ag 2 U23 rfl rfl rfl<|.len rfl U23<|.lss rfl rfl .nil) fun Y U =>?_
 refine bc U 57 ?_ ?_
 ·
  intro ac U;try simp only [QQ,Qax] at ac
  have hk:k<W.length:=by have:=ac;first|omega|(simp at this;omega)
  obtain⟨⟨xs,xl⟩,hes⟩:∃ e,W[k]? = some e:=⟨_,List.getElem?_eq_getElem hk⟩
  have hxl:xl.length≤1000000:=hW _ (List.mem_of_getElem? hes)
  have hx9:W.getD k w1=(xs,xl):=by rw[List.getD,hes];rfl
  have hpk:=hP.2.2.2.2.2 k hk
  rw[hx9] at hpk
  dsimp only at hpk
  refine wct U ?_
  refine zss (hK4 _ _ ?_)
  refine wsk fun K5 hK5 =>?_
  refine wp_block ?_
  refine zsr fun K6 hK6 =>?_
  refine k9 U (.fa 7 rfl U25<|.lb ag 2 U23 rfl rfl rfl<|.move rfl .nil) fun Y U =>?_
  obtain⟨az,aA,ar,aj,ak,al,ap⟩:=ag.openR (i:=1) rfl (k) (r:=[.v (.int .i64 xs),.l 2 (xl.map itD)]) (mj hes) 100 rfl
  revert U
  cases aj;clear ag al
  rcases ak with _|⟨ad,_|⟨aa,_|_⟩⟩
  obtain rfl:=ad.v_out
  clear ad
  obtain⟨aB,aC,ao,au⟩:=aa.l_shape;subst ao
  intro U
  have aq:=ap.dat 101 rfl (aa.cast (fun _ h=>(lf rfl h)));clear ap aa
  refine k9 U (.c rfl (fun _ h_=>li h_ rfl rfl U23 nV (k) rfl hk)<|.loadCR aq (i:=100) rfl rfl U30 rfl nV .nil) fun Y U =>?_
  refine plz (lc U aq 102 rJ rfl fun aD Y aE U av _ _ =>?_)
  refine plz (stw U av 102 nV fun aF ae _ =>?_)
  refine znl (hK6 _ _ ?_)
  refine wsk fun K7 hK7 =>?_
  replace U:=U.oz [1,3,4,5]
  refine zsr fun K8 hK8 =>?_
  refine k9 U (.fa 0 rfl U30<|.lb ae 102 U2 rfl rfl rfl<|.move rfl<|.leq rfl rfl<|.move rfl .nil) fun Y U =>?_
  refine bc U 69 ?_ ?_
  · intro hb _;exact absurd hb (by have h7:=hpk.1;revert h7;generalize (if k=0 then fr else (W.getD (k - 1) w1).1)=z;intro h7;simp;omega)
  clear U;intro _ U
  refine k9 U (.faZ 0 rfl U30<|.loadB1Z ae (i:=102) rfl rfl rfl U2 rfl<|.faZ 5 rfl U25<|.loadB1Z ae (i:=2) rfl rfl rfl U2 rfl<|.gtrZ rfl rfl<|.pickF rfl rfl<|.move rfl .nil) fun Y U =>?_
  refine bc U 76 ?_ ?_
  · intro hb _;exact absurd hb (by first|(simp;done)|(simp;omega))
  clear U;intro _ U
  refine k9 U (.faZ 2 rfl U25<|.loadB1Z ae (i:=2) rfl rfl rfl U3 rfl<|.faZ 3 rfl U25<|.loadB1Z ae (i:=2) rfl rfl rfl U3 rfl<|.faZ 1 rfl U30<|.loadB1Z ae (i:=102) rfl rfl rfl U28 rfl .nil) fun Y U =>?_
  refine stz U (ecl U Tryz.func49 rfl (mY _ _ xl _ _ _ _ (ae.rd (i:=101) rfl).any (by omega)) ?_)
  rintro e aw ⟨bi9,rfl,hbi,ah⟩
  revert U
  obtain rfl:bi9=true:=hbi.2 hpk.2.2
  intro U
  have ai:=ae.later ah
  refine⟨_,rfl,?_⟩;intro Y U
  refine gz hK8 U (.notZ rfl<|.pickF rfl rfl<|.nil) fun Y U =>?_
  refine wcf U ?_
  refine zss (hK7 _ _ ?_)
  replace U:=U.oz [1,3,4,5]
  refine wp_region_lit ?_
  refine gz hK5 U (.fa 0 rfl U30<|.lb ai 102 U2 rfl rfl rfl<|.assign rfl<|.nil) fun Y U =>?_
  refine wp_region_lit ?_
  refine k9 U (.move rfl<|.inc (k+1)<|.assign rfl .nil) fun Y U =>?_
  refine wpList_nil ?_
  show ∃ n',n'<_∧_
  have hla:xs=(if k+1=0 then fr else (W.getD (k+1 - 1) w1).1):=by rw[if_neg (by omega),Nat.add_sub_cancel,List.getD,hes];rfl
  rw[hla] at U
  exact⟨W.length - (k+1),by omega,k+1,_,by omega,rfl,U.only [1,3,4],ai.only [1,2]⟩
 intro ac U;try simp only [QQ,Qax] at ac
 revert U
 obtain rfl:k=W.length:=by have:=ac;first|omega|(simp at this;omega)
 intro U
 refine wcf U ?_
 refine wp_exit ?_
 refine hK3 _ _ ?_
 refine la U (.assign rfl .nil) fun Y U =>?_
 refine rt1 U ?_
 exact⟨rfl,ag.only [1]⟩
theorem zH(X:Cx)(h:List Ver)(s9:Int)(d:List Int)(p pd:Option Addr)(nn c cd:Nat)(w0:World)(hl:h.length≤1000000)(hd:d.length≤1000000)(m0:MemOk X w0 [(1,.dat (.slice p nn c) (.l 2 (h.map itD))),(2,.dat (.slice pd d.length cd) (.ns .u8 d))] w0) :
   Calls Tryz.prog 55 #[.slice p nn c,.int .i64 s9,.slice pd d.length cd] w0 fun e w' => ∃ (p9:Option Addr) (c9:Nat),e=.returned (.slice p9 (mN h s9 d).length c9)∧MemOk X w0 [(1,.dat (.slice p nn c) (.l 2 (h.map itD))),(2,.dat (.slice pd d.length cd) (.ns .u8 d)),(9,.dat (.slice p9 (mN h s9 d).length c9) (.l 2 ((mN h s9 d).map itD)))] w':=by
 refine qr Tryz.func55 rfl Tryz.ntmps55 fun Y U =>?_
 have hnn:nn=h.length:=nX (m0.rd (i:=1) rfl)
 revert U
 subst hnn
 intro U
 refine la U (.assign rfl .nil) fun Y U =>?_
 refine wsk fun K0 hK0 =>?_
 refine zsr fun K1 hK1 =>?_
 refine k9 U (.move rfl<|.lss rfl rfl<|.move rfl .nil) fun Y U =>?_
 refine bc U 9 ?_ ?_
 ·
  intro hb8 U;try simp only [QQ,Qax] at hb8
  have htn:¬ (1≤s9∧s9≤1099511627776):=by have:=hb8;first|omega|(simp at this;omega)
  refine k9 U (.sk<|.sk<|.pickT rfl rfl<|.move rfl<|.sk<|.sk<|.sk<|.sk .nil) fun Y U =>?_
  refine lw U rfl rfl rfl rfl fun Y U =>?_
  refine lw U rfl rfl rfl rfl fun Y U =>?_
  refine lw U rfl rfl rfl rfl fun Y U =>?_
  refine lw U rfl rfl rfl rfl fun Y U =>?_
  refine lw U rfl rfl rfl rfl fun Y U =>?_
  refine lw U rfl rfl rfl rfl fun Y U =>?_
  refine lw U rfl rfl rfl rfl fun Y U =>?_
  refine lw U rfl rfl rfl rfl fun Y U =>?_
  refine lw U rfl rfl rfl rfl fun Y U =>?_
  refine gz hK1 U (.sk<|.pickT rfl rfl<|.nil) fun Y U =>?_
  refine wct U ?_
  replace U:=U.oz [0,1,2,6,9,12,13,17,28]
  refine la U (.move rfl<|.assign rfl .nil) fun Y U =>?_
  refine rt1 U ?_
  have hAd:mN h s9 d=h:=by unfold mN;rw[if_neg (fun h9=>htn h9.1)]
  have aD:=m0.dat 9 rfl (m0.rd (i:=1) rfl)
  rw[hAd]
  exact⟨_,_,rfl,aD.ren [(1,1),(2,2),(9,9)] (by decide)⟩
 intro hb8 U;try simp only [QQ,Qax] at hb8
 have ht1:1≤s9:=by have:=hb8;first|omega|(simp at this;omega)
 refine k9 U (.moveZ rfl<|.gtrZ rfl rfl<|.pickF rfl rfl<|.move rfl .nil) fun Y U =>?_
 refine bc U 13 ?_ ?_
 ·
  intro ab U;try simp only [QQ,Qax] at ab
  have htn:¬ (1≤s9∧s9≤1099511627776):=by have:=ab;first|omega|(simp at this;omega)
  refine k9 U (.sk<|.sk<|.sk<|.sk .nil) fun Y U =>?_
  refine lw U rfl rfl rfl rfl fun Y U =>?_
  refine lw U rfl rfl rfl rfl fun Y U =>?_
  refine lw U rfl rfl rfl rfl fun Y U =>?_
  refine lw U rfl rfl rfl rfl fun Y U =>?_
  refine lw U rfl rfl rfl rfl fun Y U =>?_
  refine lw U rfl rfl rfl rfl fun Y U =>?_
  refine lw U rfl rfl rfl rfl fun Y U =>?_
  refine lw U rfl rfl rfl rfl fun Y U =>?_
  refine lw U rfl rfl rfl rfl fun Y U =>?_
  refine gz hK1 U (.sk<|.pickT rfl rfl<|.nil) fun Y U =>?_
  refine wct U ?_
  replace U:=U.oz [0,1,2,6,9,12,13,17,28]
  refine la U (.move rfl<|.assign rfl .nil) fun Y U =>?_
  refine rt1 U ?_
  have hAd:mN h s9 d=h:=by unfold mN;rw[if_neg (fun h9=>htn h9.1)]
  have aE:=m0.dat 9 rfl (m0.rd (i:=1) rfl)
  rw[hAd]
  exact⟨_,_,rfl,aE.ren [(1,1),(2,2),(9,9)] (by decide)⟩
 intro ab U;try simp only [QQ,Qax] at ab
 have htm:1≤s9∧s9≤1099511627776:=by have:=ab;first|omega|(simp at this;omega)
 refine k9 U (.moveZ rfl<|.lenZ rfl U94<|.gtrZ rfl rfl<|.moveZ rfl .nil) fun Y U =>?_
 refine bc U 17 ?_ ?_
 ·
  intro ac U;try simp only [QQ,Qax] at ac
  have hl0:0<h.length:=by have:=ac;first|omega|(simp at this;omega)
  obtain⟨⟨xs,xd⟩,hes⟩:∃ e,h[h.length - 1]? = some e:=⟨_,List.getElem?_eq_getElem (by omega)⟩
  have hx9:(h.getD (h.length - 1) v0).1=xs:=by rw[List.getD,hes];rfl
  refine k9 U (.moveZ rfl<|.moveZ rfl<|.moveZ rfl<|.lenZ rfl U94<|.subZ rfl rfl (r:=((h.length - 1:Nat):Int)) (by rw[IntWalk.i64_in _ (by omega)];omega) .nil) fun Y U =>?_
  obtain⟨aW,aX,aF,ap,aq,ar,ay⟩:=m0.openR (i:=1) rfl (h.length - 1) (r:=[.v (.int .i64 xs),.ns .u8 xd]) (lm hes) 20 rfl
  revert U
  cases ap;clear m0 ar
  rcases aq with _|⟨ad,_|⟨aa,_|_⟩⟩
  obtain rfl:=ad.v_out
  clear ad
  obtain⟨aY,aZ,au,aG⟩:=aa.ns_shape;subst au
  intro U
  have ao:=ay.dat 21 rfl (aa.cast (fun _ h=>(lf rfl h)));clear ay aa
  refine gz hK1 U (.g rfl rfl rfl rfl (fun _ h_=>li h_ rfl rfl U94 lN (h.length - 1) rfl (by omega))<|.fieldAddrQZ 0 rfl nf rfl (s:=0) (by kernel_rfl) rfl<|.loadC0Z ao (i:=20) rfl rfl U2 rfl<|.leqZ rfl rfl<|.pickTZ rfl rfl<|.pickF rfl rfl<|.nil) fun Y U =>?_
  refine bc U 28 ?_ ?_
  ·
   intro ae U;try simp only [QQ,Qax] at ae
   have hbad:s9≤xs:=by have:=ae;first|omega|(simp at this;omega)
   refine wct U ?_
   replace U:=U.oz [0,1,2,6,9,12,13,17,28]
   refine la U (.move rfl<|.assign rfl .nil) fun Y U =>?_
   refine rt1 U ?_
   have hAd:mN h s9 d=h:=by unfold mN;rw[if_neg (fun h9=>h9.2.elim (fun e=>by rw[e] at hl0;simp at hl0) (fun h8=>by omega))]
   have aH:=ao.dat 9 rfl (ao.rd (i:=1) rfl)
   rw[hAd]
   exact⟨_,_,rfl,aH.ren [(1,1),(2,2),(9,9)] (by decide)⟩
  intro ae U;try simp only [QQ,Qax] at ae
  have hgood:xs<s9:=by have:=ae;first|omega|(simp at this;omega)
  refine wcf U ?_
  refine zss (hK0 _ _ ?_)
  replace U:=U.oz [0,1,2,6,9,12,13,17,28]
  refine zsr fun K2 hK2 =>?_
  refine k9 U (.move rfl .nil) fun Y U =>?_
  have az:=ao.nilR 22 110 2
  refine plz (lC U az 22 rfl rfl rfl (az.rd (i:=1) rfl) U94 mX rfl rfl (by decide) (by simp only [List.length_append,List.length_nil,List.length_map,List.length_cons];omega) rfl fun a0 a1 Y a2 U aA =>?_)
  refine k9 U (.move rfl<|.move rfl .nil) fun Y U =>?_
  refine plz (nC U aA 23 rfl rfl (aA.nums (i:=2) rfl) U22 lJ (by decide) (by omega) rfl fun a3 a4 Y a5 U aI =>?_)
  refine k9 U (.build rfl oc sY rfl (by dsimp only [l9,List.set] <;> rfl) .nil) fun Y U =>?_
  have aB:=aI.freezeN 23 rfl
  refine plz (lq U aB 24 (mm:=2) rfl (.cons rfl rfl (.cons (.v _) (.cons (aB.rd (i:=23) rfl) .nil)) .nil) U94 mX rfl rfl rfl rfl rfl fun a6 Y a7 U aJ =>?_)
  have aC:=aJ.freezeR 24 rfl
  refine plz (lC U aC 22 rfl rfl rfl (aC.rd (i:=24) rfl) U94 mX rfl rfl (by decide) (by simp only [List.length_append,List.length_nil,List.length_map,List.length_cons];omega) rfl fun a8 a9 Y ba U aK =>?_)
  refine gz hK2 U (.assign rfl .nil) fun Y U =>?_
  refine rt1 U ?_
  have hAd:mN h s9 d=h++[(s9,d)]:=by unfold mN;rw[if_pos ⟨htm,.inr (by omega)⟩]
  have ah:=aK.freezeR 22 rfl
  have hE:h.map itD++[[D.v (.int .i64 s9),.ns .u8 d]]=(h++[(s9,d)]).map itD:=by rw[List.map_append];rfl
  try rw[List.nil_append] at ah
  try simp only [List.nil_append] at ah
  rw[hE] at ah
  try simp only [List.nil_append]
  rw[hE]
  rw[List.length_map] at ah
  rw[List.length_map,hAd]
  exact⟨_,_,rfl,ah.ren [(1,1),(2,2),(9,22)] (by decide)⟩
 intro ac U;try simp only [QQ,Qax] at ac
 have hnil:h=[]:=List.length_eq_zero_iff.1 (by have:=ac;first|omega|(simp at this;omega)|(simp at this;simp [this]))
 refine gz hK1 U (.sk<|.sk<|.sk<|.sk<|.sk<|.sk<|.sk<|.sk<|.sk<|.pickFZ rfl rfl<|.pickF rfl rfl<|.nil) fun Y U =>?_
 refine wcf U ?_
 refine zss (hK0 _ _ ?_)
 replace U:=U.oz [0,1,2,6,9,12,13,17,28]
 refine zsr fun K3 hK3 =>?_
 refine k9 U (.move rfl .nil) fun Y U =>?_
 have ai:=m0.nilR 20 110 2
 refine plz (lC U ai 20 rfl rfl rfl (ai.rd (i:=1) rfl) U94 mX rfl rfl (by decide) (by simp only [List.length_append,List.length_nil,List.length_map,List.length_cons];omega) rfl fun aL aM Y aN U aj =>?_)
 refine k9 U (.move rfl<|.move rfl .nil) fun Y U =>?_
 refine plz (nC U aj 21 rfl rfl (aj.nums (i:=2) rfl) U22 lJ (by decide) (by omega) rfl fun aO aP Y aQ U av =>?_)
 refine k9 U (.build rfl oc sY rfl (by dsimp only [l9,List.set] <;> rfl) .nil) fun Y U =>?_
 have ak:=av.freezeN 21 rfl
 refine plz (lq U ak 22 (mm:=2) rfl (.cons rfl rfl (.cons (.v _) (.cons (ak.rd (i:=21) rfl) .nil)) .nil) U94 mX rfl rfl rfl rfl rfl fun aR Y aS U aw =>?_)
 have al:=aw.freezeR 22 rfl
 refine plz (lC U al 20 rfl rfl rfl (al.rd (i:=22) rfl) U94 mX rfl rfl (by decide) (by simp only [List.length_append,List.length_nil,List.length_map,List.length_cons];omega) rfl fun aT aU Y aV U ax =>?_)
 refine gz hK3 U (.assign rfl .nil) fun Y U =>?_
 refine rt1 U ?_
 have hAd:mN h s9 d=h++[(s9,d)]:=by unfold mN;rw[if_pos ⟨htm,.inl hnil⟩]
 have ag:=ax.freezeR 20 rfl
 have hE:h.map itD++[[D.v (.int .i64 s9),.ns .u8 d]]=(h++[(s9,d)]).map itD:=by rw[List.map_append];rfl
 try rw[List.nil_append] at ag
 try simp only [List.nil_append] at ag
 rw[hE] at ag
 try simp only [List.nil_append]
 rw[hE]
 rw[List.length_map] at ag
 rw[List.length_map,hAd]
 exact⟨_,_,rfl,ag.ren [(1,1),(2,2),(9,20)] (by decide)⟩
theorem sZ(X:Cx)(h:List Ver)(f:Int)(p:Option Addr)(nn c:Nat)(w0:World)(hl:h.length≤1000000)(hr:Rise h)(m0:MemOk X w0 [(1,.dat (.slice p nn c) (.l 2 (h.map itD)))] w0) :
   Calls Tryz.prog 56 #[.slice p nn c,.int .i64 f] w0 fun e w' => ∃ (p9:Option Addr) (c9:Nat),e=.returned (.slice p9 (lr h f).length c9)∧MemOk X w0 [(1,.dat (.slice p nn c) (.l 2 (h.map itD))),(9,.dat (.slice p9 (lr h f).length c9) (.l 2 ((lr h f).map itD)))] w':=by
 refine mR Tryz.func56 rfl Tryz.ntmps56 fun Y U =>?_
 have hnn:nn=h.length:=nX (m0.rd (i:=1) rfl)
 revert U
 subst hnn
 intro U
 refine la U (.assign rfl .nil) fun Y U =>?_
 refine la U (.assign rfl .nil) fun Y U =>?_
 refine wsk fun K0 hK0 =>?_
 refine la U (.assign rfl .nil) fun Y U =>?_
 refine wp_block ?_
 refine wp_loop_ghost (fun g a w => ∃ (i:Nat) (p9:Option Addr) (c9:Nat),i≤h.length∧g=h.length - i∧Has 36 [(0,.slice p h.length c),(1,.int .i64 f),(5,.slice p9 ((rpr h f i).map itD).length c9),(6,.int .i64 i)] a∧MemOk X w0 [(1,.dat (.slice p h.length c) (.l 2 (h.map itD))),(9,.row (.slice p9 ((rpr h f i).map itD).length c9) 110 2 ((rpr h f i).map itD))] w) (h.length) ?_ ?_
 · have mz:=m0.nilR 9 110 2
   have hz:([]:List (List D))=((rpr h f 0).map itD):=by rw[s3];rfl
   have hz2:0=((rpr h f 0).map itD).length:=by rw[s3];rfl
   rw[hz] at mz
   exact⟨0,none,0,Nat.zero_le _,rfl,by rw[← hz2];exact U.only [0,1,5,6],by rw[← hz2];exact mz.only [1,9]⟩
 clear U m0
 rintro g Y w4 ⟨i,p9,c9,hil,hg,U,m4⟩
 refine wsk fun K1 hK1 =>?_
 refine la U (.move rfl<|.move rfl<|.len rfl U94<|.lss rfl rfl .nil) fun Y U =>?_
 refine bc U 10 ?_ ?_
 ·
  intro hb9 U;try simp only [QQ,Qax] at hb9
  have hi:i<h.length:=by have:=hb9;first|omega|(simp at this;omega)
  obtain⟨⟨xs,xd⟩,hes⟩:∃ e,h[i]? = some e:=⟨_,List.getElem?_eq_getElem hi⟩
  refine wct U ?_
  refine zss (hK1 _ _ ?_)
  refine wsk fun K2 hK2 =>?_
  refine wp_block ?_
  refine zsr fun K3 hK3 =>?_
  refine k9 U (.move rfl<|.inc (i+1)<|.move rfl<|.len rfl U94<|.geq rfl rfl<|.move rfl .nil) fun Y U =>?_
  refine bc U 18 ?_ ?_
  ·
   intro ad U;try simp only [QQ,Qax] at ad
   have hlast:h.length≤i+1:=by have:=ad;first|omega|(simp at this;omega)
   have hkeep:upN h f≤i+1:=by have:=rb h f;omega
   refine gz hK3 U (.sk<|.sk<|.sk<|.sk<|.sk<|.sk<|.sk<|.sk<|.pickT rfl rfl<|.nil) fun Y U =>?_
   refine wct U ?_
   replace U:=U.oz [0,1,5,6,27]
   refine wp_region_lit ?_
   refine k9 U (.move rfl<|.move rfl<|.move rfl .nil) fun Y U =>?_
   obtain⟨aS,aT,aK,ak,al,ao,aC⟩:=m4.openR (i:=1) rfl (i) (r:=[.v (.int .i64 xs),.ns .u8 xd]) (lm hes) 100 rfl
   revert U
   cases ak;clear m4 ao
   rcases al with _|⟨ae,_|⟨aa,_|_⟩⟩
   obtain rfl:=ae.v_out
   clear ae
   obtain⟨aU,aV,ap,aL⟩:=aa.ns_shape;subst ap
   intro U
   have aq:=aC.dat 101 rfl (aa.cast (fun _ h=>(lf rfl h)));clear aC aa
   refine k9 U (.c rfl (fun _ h_=>li h_ rfl rfl U94 lN (i) rfl hi)<|.loadCR aq (i:=100) rfl rfl nf rfl lN .nil) fun Y U =>?_
   refine plz (lq U aq 102 (mm:=2) rfl (.cons rfl rfl (.cons (.v _) (.cons (aq.rd (i:=101) rfl) .nil)) .nil) U94 mX rfl rfl rfl rfl rfl fun aW Y aX U aM =>?_)
   have aD:=aM.freezeR 102 rfl
   refine plz (lC U aD 9 rfl rfl rfl (aD.rd (i:=102) rfl) U94 mX rfl rfl (by decide) (by rw[List.length_map];simp;have:(rpr h f i).length≤h.length:=(by unfold rpr;rw[List.length_drop,List.length_take];omega);omega) rfl fun aY aZ Y a0 U aE =>?_)
   refine gz hK2 U (.assign rfl .nil) fun Y U =>?_
   replace U:=U.oz [0,1,5,6,27]
   refine wp_region_lit ?_
   refine k9 U (.move rfl<|.inc (i+1)<|.assign rfl .nil) fun Y U =>?_
   refine wpList_nil ?_
   show ∃ n',n'<_∧_
   have hE:((rpr h f i).map itD)++[[D.v (.int .i64 xs),.ns .u8 xd]]=((rpr h f (i+1)).map itD):=by rw[uX hes hkeep,List.map_append];rfl
   rw[hE] at aE U
   exact⟨h.length - (i+1),by omega,i+1,_,_,by omega,rfl,U.only [0,1,5,6],aE.ren [(1,1),(9,9)] (by decide)⟩
  intro ad U;try simp only [QQ,Qax] at ad
  have hi2:i+1<h.length:=by have:=ad;first|omega|(simp at this;omega)
  obtain⟨⟨ys,yd⟩,hes2⟩:∃ e,h[i+1]? = some e:=⟨_,List.getElem?_eq_getElem hi2⟩
  have hy9:(h.getD (i+1) v0).1=ys:=by rw[List.getD,hes2];rfl
  refine k9 U (.moveZ rfl<|.moveZ rfl<|.addZ rfl rfl (r:=((i+1:Nat):Int)) (by rw[IntWalk.i64_in _ (by omega)];omega) .nil) fun Y U =>?_
  obtain⟨a1,a2,aN,ar,au,av,aF⟩:=m4.openR (i:=1) rfl (i+1) (r:=[.v (.int .i64 ys),.ns .u8 yd]) (lm hes2) 100 rfl
  revert U
  cases ar;clear m4 av
  rcases au with _|⟨ag,_|⟨ab,_|_⟩⟩
  obtain rfl:=ag.v_out
  clear ag
  obtain⟨a3,a4,aw,aO⟩:=ab.ns_shape;subst aw
  intro U
  have aj:=aF.dat 101 rfl (ab.cast (fun _ h=>(lf rfl h)));clear aF ab
  refine gz hK3 U (.g rfl rfl rfl rfl (fun _ h_=>li h_ rfl rfl U94 lN (i+1) rfl (by omega))<|.fieldAddrQZ 0 rfl nf rfl (s:=0) (by kernel_rfl) rfl<|.loadC0Z aj (i:=100) rfl rfl U2 rfl<|.moveZ rfl<|.gtrZ rfl rfl<|.pickF rfl rfl<|.nil) fun Y U =>?_
  refine bc U 27 ?_ ?_
  ·
   intro ah U;try simp only [QQ,Qax] at ah
   have hkeep:upN h f≤i+1:=by first|assumption|exact(xA hr hi2).1 (by rw[hy9];have:=ah;first|omega|(simp at this;omega))
   refine wct U ?_
   replace U:=U.oz [0,1,5,6,27]
   refine wp_region_lit ?_
   refine k9 U (.move rfl<|.move rfl<|.move rfl .nil) fun Y U =>?_
   obtain⟨a5,a6,aP,ax,ay,az,aG⟩:=aj.openR (i:=1) rfl (i) (r:=[.v (.int .i64 xs),.ns .u8 xd]) (lm hes) 102 rfl
   revert U
   cases ax;clear aj az
   rcases ay with _|⟨ai,_|⟨ac,_|_⟩⟩
   obtain rfl:=ai.v_out
   clear ai
   obtain⟨a7,a8,aA,aQ⟩:=ac.ns_shape;subst aA
   intro U
   have aB:=aG.dat 103 rfl (ac.cast (fun _ h=>(lf rfl h)));clear aG ac
   refine k9 U (.c rfl (fun _ h_=>li h_ rfl rfl U94 lN (i) rfl hi)<|.loadCR aB (i:=102) rfl rfl nf rfl lN .nil) fun Y U =>?_
   refine plz (lq U aB 104 (mm:=2) rfl (.cons rfl rfl (.cons (.v _) (.cons (aB.rd (i:=103) rfl) .nil)) .nil) U94 mX rfl rfl rfl rfl rfl fun a9 Y ba U aR =>?_)
   have aH:=aR.freezeR 104 rfl
   refine plz (lC U aH 9 rfl rfl rfl (aH.rd (i:=104) rfl) U94 mX rfl rfl (by decide) (by rw[List.length_map];simp;have:(rpr h f i).length≤h.length:=(by unfold rpr;rw[List.length_drop,List.length_take];omega);omega) rfl fun bb bd Y be U aI =>?_)
   refine gz hK2 U (.assign rfl .nil) fun Y U =>?_
   replace U:=U.oz [0,1,5,6,27]
   refine wp_region_lit ?_
   refine k9 U (.move rfl<|.inc (i+1)<|.assign rfl .nil) fun Y U =>?_
   refine wpList_nil ?_
   show ∃ n',n'<_∧_
   have hE:((rpr h f i).map itD)++[[D.v (.int .i64 xs),.ns .u8 xd]]=((rpr h f (i+1)).map itD):=by rw[uX hes hkeep,List.map_append];rfl
   rw[hE] at aI U
   exact⟨h.length - (i+1),by omega,i+1,_,_,by omega,rfl,U.only [0,1,5,6],aI.ren [(1,1),(9,9)] (by decide)⟩
  intro ah U;try simp only [QQ,Qax] at ah
  have hdrop:i+1<upN h f:=by have h9:=mt (xA (f:=f) hr hi2).2;have h8:¬ f<(h.getD (i+1) v0).1:=(by rw[hy9];have:=ah;first|omega|(simp at this;omega));have:=h9 h8;omega
  refine wcf U ?_
  refine zss (hK2 _ _ ?_)
  replace U:=U.oz [0,1,5,6,27]
  refine wp_region_lit ?_
  refine k9 U (.move rfl<|.inc (i+1)<|.assign rfl .nil) fun Y U =>?_
  refine wpList_nil ?_
  show ∃ n',n'<_∧_
  have hE:((rpr h f i).map itD)=((rpr h f (i+1)).map itD):=by rw[zI hdrop]
  rw[hE] at aj U
  exact⟨h.length - (i+1),by omega,i+1,_,_,by omega,rfl,U.only [0,1,5,6],aj.ren [(1,1),(9,9)] (by decide)⟩
 intro hb9 U;try simp only [QQ,Qax] at hb9
 revert U
 obtain rfl:i=h.length:=by have:=hb9;first|omega|(simp at this;omega)
 intro U
 refine wcf U ?_
 refine wp_exit ?_
 refine hK0 _ _ ?_
 refine la U (.move rfl<|.assign rfl .nil) fun Y U =>?_
 refine rt1 U ?_
 have aJ:=m4.freezeR 9 rfl
 rw[uY,List.length_map] at aJ
 rw[uY,List.length_map]
 exact⟨_,_,rfl,aJ.ren [(1,1),(9,9)] (by decide)⟩
end
section
def pL:Nat→Nat→List Int
 | 0,n => [(n:Int)]
 | f+1,n=>if n<128 then [(n:Int)] else ((n % 128+128:Nat):Int) :: pL f (n / 128)
def enc(n:Int):List Int:=pL 9 n.toNat
def ll(l:List Int):List Int:=l.flatMap enc
theorem zK(y:Nat):bits .or .u8 ((y:Int) % 256) 128=((y % 128+128:Nat):Int):=by
 have h:∀ z:Fin 256,bits .or .u8 ((z.val:Nat):Int) 128=((z.val % 128+128:Nat):Int):=by decide +kernel
 have:=h ⟨y % 256,by omega⟩
 simp only at this
 rw[show((y:Int) % 256)=((y % 256:Nat):Int) by omega,this]
 omega
theorem s5:∀ (f n:Nat),(pL f n).length≤f+1∧1≤(pL f n).length
 | 0,n=>by simp [pL]
 | f+1,n=>by
   unfold pL
   have:=s5 f (n / 128)
   split <;> simp <;> omega
theorem lv(n:Int):(enc n).length≤10∧1≤(enc n).length:=s5 9 _
theorem k8:∀ l:List Int,(ll l).length≤10*l.length
 | []=>by simp [ll]
 | a :: l=>by
   have h1:=(lv a).1
   have h2:=k8 l
   simp only [ll,List.flatMap_cons,List.length_append,List.length_cons] at h2 ⊢
   omega
theorem nP(l:List Int)(k:Nat)(h:k<l.length):ll (l.take (k+1))=ll (l.take k)++enc (l.getD k 0):=by
 rw[List.take_succ_eq_append_getElem h]
 simp only [ll,List.flatMap_append,List.flatMap_cons,List.flatMap_nil,List.append_nil,List.getD,List.getElem?_eq_getElem h,Option.getD_some]
theorem sm(l:List Int)(k:Nat):(l.take k).length≤k:=List.length_take_le _ _
set_option maxRecDepth 100000 in
set_option maxHeartbeats 2000000 in
theorem yJ(v:Value)(ns:List Int)(w:World)(hv:IsNums .u64 w v ns)(hb:∀ j,j<ns.length→0≤ns.getD j 0∧ns.getD j 0≤18446744073709551615)(hl:ns.length≤1000) :
   Calls Tryz.prog 87 #[v] w fun e w' => ∃ u,e=.returned u∧w'.ownsRow w.heap.size 5 1 u (ll ns).length ((ll ns).map (Value.int .u8))∧Below w.heap.size w w':=by
 obtain⟨p,c,rfl,h⟩:=hv
 have H:=Lib.hid h
 have HB:=Lib.hid hb
 clear h hb
 go_enter Tryz.func87,Tryz.ntmps87
 go_wp2
 go_loopw [3,8] (fun u i wr => ∃ k:Nat,k≤ns.length∧i=.int .i64 k∧wr.ownsRow w.heap.size 5 1 u (ll (ns.take k)).length ((ll (ns.take k)).map (Value.int .u8))∧Below w.heap.size w wr) (fun _ i _=>ns.length - (intOf i).toNat)
 case atStart=>exact⟨0,Nat.zero_le _,rfl,World.ownsRow_nil _ _ _ _,Below.refl _ _⟩
 case round =>
   obtain⟨k,hk,rfl,hown,hbel⟩:=hrel
   by_cases hlt:k<ns.length
   · obtain h0|⟨b,off,rfl,hblk,hcell⟩:=H.out
     · omega
     have hc:wr.cell? ⟨b,off+k,none⟩=some (.int .u64 (ns.getD k 0)):=by rw[hbel.cell hblk];exact hcell k hlt
     obtain⟨x0,x1⟩:=HB.out k hlt
     obtain⟨x,hx⟩:∃ x:Nat,ns.getD k 0=(x:Int):=⟨(ns.getD k 0).toNat,by omega⟩
     rw[hx] at hc x0 x1
     have HX:=Lib.hid hx
     clear hcell hx
     have hlen:=k8 (ns.take k)
     have hlt2:=sm ns k
     generalize hN:(ll (ns.take k)).length=N at hown hlen
     have HN:=Lib.hid hN
     clear hN
     have hbz:=hbel.size
     obtain⟨wo,rfl⟩:∃ wo:World,wo=wr:=⟨_,rfl⟩
     go_wp2
     go_loopw [3,5] (fun u y wr => ∃ (f n:Nat) (dn:List Int),y=.int .u64 (n:Int)∧n<128 ^ (f+1)∧(n:Int)≤18446744073709551615∧dn++pL f n=enc x∧wr.ownsRow w.heap.size 5 1 u (N+dn.length) ((ll (ns.take k)++dn).map (Value.int .u8))∧Below w.heap.size w wr) (fun _ y _=>(intOf y).toNat)
     case atStart=>exact⟨9,x,[],rfl,by omega,by omega,rfl,by simpa using hown,hbel⟩
     case round =>
       obtain⟨f,n,dn,rfl,hn1,hn2,hdn,hown2,hbel2⟩:=hrel
       have hdl:dn.length≤10:=by
         have h1:=(lv x).1
         rw[← hdn] at h1
         simp at h1;omega
       have hsz2:=hbel2.size
       have HD:=Lib.hid hdn
       have HP:=Lib.hid hn1
       clear hdn hn1
       have ho:=zK n
       by_cases hge:128≤n
       · go_wp2_with (at_builtin;refine pK rfl _ _ 22 rfl w.heap.size 5 .u8 1 Tryz.underlying22 pB (by omega) _ _ _ rfl hown2 _ 1 rfl (by omega) hsz2 ?_;intro v' w' hown' hb')
         rcases f with _|f
         · exfalso;have:=HP.out;omega
         go_roundw
         case rel =>
           refine⟨f,n / 128,dn++[((n % 128+128:Nat):Int)],by simp,?_,by omega,?_,?_,hbel2.trans hb'⟩
           · have:=HP.out
             rw[Nat.pow_succ] at this
             exact Nat.div_lt_of_lt_mul (by rw[Nat.mul_comm];exact this)
           · rw[← HD.out,pL,if_neg (by omega)];simp
           rw[show N+(dn++[((n % 128+128:Nat):Int)]).length=N+dn.length+1 by simp;omega]
           simpa using hown'
         case measure=>simp [intOf];omega
       have hen:pL f n=[(n:Int)]:=by cases f <;> simp [pL];omega
       have HE:=Lib.hid hen
       clear hen ho
       go_wp2_with (at_builtin;refine pK rfl _ _ 22 rfl w.heap.size 5 .u8 1 Tryz.underlying22 pB (by omega) _ _ _ rfl hown2 _ 1 rfl (by omega) hsz2 ?_;intro v' w' hown' hb')
       have hd2:=HD.out
       rw[HE.out] at hd2
       go_roundw
       case rel =>
         refine⟨k+1,by omega,by go_num,?_,hbel2.trans hb'⟩
         rw[nP _ _ hlt,HX.out,← hd2,List.length_append,HN.out,List.length_append]
         rw[show N+(dn.length + [(n:Int)].length)=N+dn.length+1 by simp;omega]
         simpa using hown'
       case measure=>simp [intOf];omega
   obtain rfl:k=ns.length:=by omega
   rw[List.take_length] at hown
   go_wp2
   go_ret
   exact⟨_,rfl,hown,hbel⟩
end
end Go.Proofs.YteglmahnkfgelaaGreat.K
