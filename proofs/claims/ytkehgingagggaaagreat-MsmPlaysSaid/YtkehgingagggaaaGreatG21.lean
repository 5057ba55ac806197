/- General laws of walks. -/
import Derived.Test.YtkehgingagggaaaGreatG20
import Derived.Test.YtkehgingagggaaaGreatG17
import Derived.Test.YtkehgingagggaaaGreatG19
import Derived.Test.YtkehgingagggaaaGreatG18
namespace Go.Proofs.YtkehgingagggaaaGreat.K
open Go.ChangeShapes Go.WideShapes Go.ChangeAt Go.RowKit
set_option linter.unusedVariables false
set_option linter.unusedSimpArgs false
set_option maxRecDepth 100000
set_option maxHeartbeats 4000000
set_option autoImplicit true
set_option relaxedAutoImplicit true
section
theorem kI:iO Tryz.prog 44 [.int .i64 0,.int .i64 0,.int .i64 0,.int .i64 0,.slice none 0 0]=true:=by kernel_rfl
theorem xj{L:List VolV}{vo j:Int}(h:(j = -1∧∀ (k:Nat) (e:VolV),L[k]? = some e→e.vo≠vo)∨∃ (k:Nat) (e:VolV),j=(k:Int)∧L[k]? = some e∧e.vo=vo)(hj:0≤j):∃ y∈L,y.vo=vo:=by
 rcases h with ⟨h,_⟩|⟨k,e,_,h1,h2⟩
 · omega
 exact⟨e,List.mem_of_getElem? h1,h2⟩
theorem qV{L:List VolV}{vo j:Int}(h:(j = -1∧∀ (k:Nat) (e:VolV),L[k]? = some e→e.vo≠vo)∨∃ (k:Nat) (e:VolV),j=(k:Int)∧L[k]? = some e∧e.vo=vo)(hj:j<0):¬ ∃ y∈L,y.vo=vo:=by
 rcases h with ⟨_,h⟩|⟨k,e,h0,_,_⟩
 · rintro⟨y,hy,hv⟩
   obtain⟨k,hk⟩:=List.getElem?_of_mem hy
   exact h k y hk hv
 omega
theorem qW{L:List VolV}{vo j:Int}(h:(j = -1∧∀ (k:Nat) (e:VolV),L[k]? = some e→e.vo≠vo)∨∃ (k:Nat) (e:VolV),j=(k:Int)∧L[k]? = some e∧e.vo=vo)(hj:0≤j):∃ (jn:Nat) (x:VolV),j=(jn:Int)∧L[jn]? = some x∧x.vo=vo:=by
 rcases h with ⟨h,_⟩|⟨k,e,h0,h1,h2⟩
 · omega
 exact⟨k,e,h0,h1,h2⟩
theorem sP{L:List VolV}{vo:Int}{k:Nat}{z:VolV}(h:∀ i,i<k→∀ z,L[i]? = some z→z.vo<vo)(hz:L[k]? = some z)(hv:z.vo<vo):∀ i,i<k+1→∀ z,L[i]? = some z→z.vo<vo:=fun i hi y hy=>by
 rcases Nat.lt_or_ge i k with h1|h1
 · exact h i h1 y hy
 obtain rfl:i=k:=by omega
 rw[hz] at hy;injection hy with hy;subst hy;exact hv
def qt(L:List VolV)(v:VolV):List VolV:=L.takeWhile (fun y=>decide (y.vo<v.vo))++[v]++L.dropWhile (fun y=>decide (y.vo<v.vo))
theorem t0{v:VolV}:∀ {L:List VolV} {k:Nat},k≤L.length→(∀ i,i<k→∀ z,L[i]? = some z→z.vo<v.vo)→(∀ z,L[k]? = some z→¬ z.vo<v.vo)→L.takeWhile (fun y=>decide (y.vo<v.vo))=L.take k∧L.dropWhile (fun y=>decide (y.vo<v.vo))=L.drop k
 | [],k,hk,_,_=>by simp
 | y :: t,0,_,_,h=>by
   have:=h y rfl
   simp [List.takeWhile,List.dropWhile,this]
 | y :: t,k+1,hk,hb,h=>by
   have h0:=hb 0 (by omega) y rfl
   obtain⟨a,b⟩:=t0 (L:=t) (k:=k) (by simpa using hk) (fun i hi z hz=>hb (i+1) (by omega) z (by simpa using hz)) (fun z hz=>h z (by simpa using hz))
   simp [List.takeWhile,List.dropWhile,h0,a,b]
open Classical in
noncomputable def kl(L:List VolV)(c:Cm):List VolV×Int×Int×Int×Int:=
 if c.kd=1 then (if (∃ y∈L,y.vo=c.vo) then (L,29,0,0,0) else if iQ c.vo c.bl c.sz c.pe c.to c.pl then (qt L (i5 c.vo c.bl c.sz c.pe c.to c.pl),0,0,0,0) else (L,23,0,0,0))
 else match L.findIdx? (fun y=>decide (y.vo=c.vo)) with
   | none=>(L,28,0,0,0)
   | some j=>(L.set j (doV (L.getD j jM) c).1,(doV (L.getD j jM) c).2,(nu (doV (L.getD j jM) c).1 (doV (L.getD j jM) c).2).1,(nu (doV (L.getD j jM) c).1 (doV (L.getD j jM) c).2).2.1,(nu (doV (L.getD j jM) c).1 (doV (L.getD j jM) c).2).2.2)
theorem k9{c:Cm}(hk:c.kd=1)(h:∃ y∈L,y.vo=c.vo):kl L c=(L,29,0,0,0):=by rw[kl,if_pos hk,if_pos h]
theorem ku{c:Cm}(hk:c.kd=1)(h:¬ ∃ y∈L,y.vo=c.vo)(hN:¬ iQ c.vo c.bl c.sz c.pe c.to c.pl):kl L c=(L,23,0,0,0):=by rw[kl,if_pos hk,if_neg h,if_neg hN]
theorem km{c:Cm}(hk:¬ c.kd=1)(h:¬ ∃ y∈L,y.vo=c.vo):kl L c=(L,28,0,0,0):=by
 have hf:L.findIdx? (fun y=>decide (y.vo=c.vo))=none:=List.findIdx?_eq_none_iff.2 (fun y hy=>by simpa using fun e=>h ⟨y,hy,e⟩)
 rw[kl,if_neg hk,hf]
theorem lw{L:List VolV}{c:Cm}(hk:c.kd=1)(h:¬ ∃ y∈L,y.vo=c.vo)(hN:iQ c.vo c.bl c.sz c.pe c.to c.pl)(hkl:k≤L.length)(hb:∀ i,i<k→∀ z,L[i]? = some z→z.vo<c.vo)(hg:∀ z,L[k]? = some z→¬ z.vo<c.vo):kl L c=(L.take k++[i5 c.vo c.bl c.sz c.pe c.to c.pl]++L.drop k,0,0,0,0):=by
 obtain⟨a,b⟩:=t0 (v:=i5 c.vo c.bl c.sz c.pe c.to c.pl) hkl hb hg
 rw[kl,if_pos hk,if_neg h,if_pos hN,qt,a,b]
theorem la{L:List VolV}{c:Cm}{x y:VolV}{e9 rl rf rn:Int}(hk:¬ c.kd=1)(hU:(L.map (·.vo)).Nodup)(hj:L[j]? = some x)(hv:x.vo=c.vo)(hd:doV x c=(y,e9))(hr:nu y e9=(rl,rf,rn)):kl L c=(L.set j y,e9,rl,rf,rn):=by
 have hf:L.findIdx? (fun y=>decide (y.vo=c.vo))=some j:=by
   cases hf:L.findIdx? (fun y=>decide (y.vo=c.vo)) with
   | none=>exact absurd hv (by simpa using List.findIdx?_eq_none_iff.1 hf x (List.mem_of_getElem? hj))
   | some i =>
     obtain⟨hil,hiv,_⟩:=List.findIdx?_eq_some_iff_getElem.1 hf
     have h1:(L.map (·.vo))[i]? = some c.vo:=by rw[List.getElem?_map,List.getElem?_eq_getElem hil];exact congrArg some (by simpa using hiv)
     have h2:(L.map (·.vo))[j]? = some c.vo:=by rw[List.getElem?_map,hj];exact congrArg some hv
     rw[kQ hU h1 h2]
 have hg:L.getD j jM=x:=by rw[List.getD,hj];rfl
 rw[kl,if_neg hk,hf]
 simp only [hg,hd,hr]
theorem nc(X B n)(L:List VolV)(p)(c:Nat)(kd vo bl sz pe to at0 ix:Int)(place items pb cb w0)(hV:∀ y∈L,VolS n y)(hn:n≤800000)(hl:L.length≤1000000)(hU:(L.map (·.vo)).Nodup)(hc:CmdOk kd vo bl sz pe to at0 ix place items)(m0:MemOk X w0 [(1,.box B 32 [.slice p (L.map ij).length c]),(2,.dat (.slice p (L.map ij).length c) (.l 11 (L.map ij))),(3,.dat (.slice pb (mh kd vo bl sz pe to at0 ix place items).length cb) (.ns .u8 (mh kd vo bl sz pe to at0 ix place items)))] w0) :
   Calls Tryz.prog 15 #[.pointer (some ⟨B,0,none⟩),.slice pb (mh kd vo bl sz pe to at0 ix place items).length cb] w0 fun e w' => ∃ (L':List VolV) (e9 rl rf rn:Int) (p':Option Addr) (c':Nat),e=.returned (.agg #[.int .i64 e9,.int .i64 rl,.int .i64 rf,.int .i64 rn,.slice none 0 0])∧kl L (⟨kd,vo,bl,sz,pe,place,to,at0,ix,items⟩:Cm)=(L',e9,rl,rf,rn)∧MemOk X w0 [(1,.box B 32 [.slice p' (L'.map ij).length c']),(2,.dat (.slice p' (L'.map ij).length c') (.l 11 (L'.map ij)))] w':=by
 refine iZ Tryz.func15 rfl Tryz.ntmps15 fun Y U =>?_
 have hlm:(L.map ij).length≤1000000:=by simpa using hl
 have hpl:=hc.pl
 refine zsr fun K0 hK0=>plz<|hZ U m0 20 iL rfl fun g1 Y w2 U m2 _ _=>znl<|hK0 _ _<|zsr fun K1 hK1=>g9 U (.move rfl .nil) fun Y U=>plz (ecl U Tryz.func29 rfl (uT _ kd vo bl sz pe to at0 ix place items _ _ _ hc (m2.into [(1,3)] (by decide) rfl)) ?_)
 rintro e w5 ⟨pp5,cp5,pi5,ci5,rfl,hm5⟩
 have mx5:=m2.back hm5 [(21,1),(22,2)] (by decide);clear hm5 m2
 have m5:=mx5.oz [21,22,1,2,20]
 refine⟨_,rfl,?_⟩;intro Y U
 refine g9 U (.move rfl<|.extract rfl rfl<|.extract rfl rfl .nil) fun Y U=>plz<|hZ U m5 23 i8 rfl fun ga Y gb U eb _ _=>plz (stw U eb 23 ip fun gc cd _ =>?_)
 refine gz hK1 U (.assign rfl .nil) fun Y U=>wsk fun K2 hK2 =>?_
 replace U:=U.oz [0,4,5,6]
 refine hC U (.move rfl<|.neq rfl rfl .nil) fun Y U=>bcF U 19 fun U=>wcf U<|zss<|hK2 _ _<|zsr fun K3 hK3=>g9 U (.move rfl<|.fa 1 rfl U38<|.lb cd 23 U3 rfl rfl rfl .nil) fun Y U=>plz (ecl U Tryz.func49 rfl (qR _ _ L _ _ _ _ hl (cd.into [(1,1),(2,2)] (by decide) rfl)) ?_)
 rintro e gf ⟨j,rfl,hj,bk⟩
 have cg:=cd.back bk [(1,1),(2,2)] (by decide);clear bk cd
 have dq:=cg.oz [1,2,20,21,22,23]
 refine⟨_,rfl,?_⟩;intro Y U
 refine gz hK3 U (.assign rfl .nil) fun Y U =>?_
 replace U:=U.oz [0,4,5,7]
 refine zsr fun K4 hK4=>g9 U (.move rfl<|.nilCheck rfl<|.fa 0 rfl U32<|.lb dq 1 U30 rfl rfl rfl .nil) fun Y U =>?_
 have dr:=dq.nilR 24 51 11
 refine plz<|iM U dr 24 rfl rfl rfl (dr.rd (i:=2) rfl) U30 jD rfl rfl (by decide) (by simp;omega) rfl fun gg gh Y gi U bm=>gz hK4 U (.assign rfl .nil) fun Y U=>wsk fun K5 hK5=>hC U (.fa 0 rfl U38<|.lb bm 23 U3 rfl rfl rfl<|.eql rfl rfl .nil) fun Y U=>bc U 32 ?_ ?_
 ·
  intro az U;try simp only [QQ,Qax] at az
  have hkd:kd=1:=by simpa using az
  refine wct U<|wsk fun K6 hK6 =>?_
  replace U:=U.oz [0,4,5,7,8]
  refine zsr fun K7 hK7 =>?_
  have a1:=bm.freezeR 24 rfl
  refine gz hK7 U (.move rfl<|.geq rfl rfl<|.nil) fun Y U=>bc U 34 ?_ ?_
  ·
   intro aA U;try simp only [QQ,Qax] at aA
   have hex:∃ y∈L,y.vo=vo:=xj hj (by simpa using aA)
   refine wct U<|zsr fun K8 hK8=>g9 U (.build rfl iL kI rfl (by dsimp only [iY,List.set] <;> rfl) .nil) fun Y U=>plz (stw U a1 20 iz fun gj ce _ =>?_)
   refine znl<|hK8 _ _<|rtd (kG (fn:=Tryz.f15) U ce (i:=20) rfl rfl rfl U44 rfl iz ?_)
   first|exact⟨L,_,_,_,_,_,_,rfl,k9 (c:=(⟨kd,vo,bl,sz,pe,place,to,at0,ix,items⟩:Cm)) hkd hex,ce.only [1,2]⟩|exact⟨L,_,_,_,_,_,_,rfl,ku (c:=(⟨kd,vo,bl,sz,pe,place,to,at0,ix,items⟩:Cm)) hkd hnx hN,ce.only [1,2]⟩|exact⟨L,_,_,_,_,_,_,rfl,km (c:=(⟨kd,vo,bl,sz,pe,place,to,at0,ix,items⟩:Cm)) hkn hnx,ce.only [1,2]⟩
  intro aA U;try simp only [QQ,Qax] at aA
  have hnx:¬ ∃ y∈L,y.vo=vo:=qV hj (by simpa using aA)
  refine wcf U<|zss<|hK6 _ _<|wsk fun K9 hK9 =>?_
  by_cases hN:iQ vo bl sz pe to place
  ·
   refine wp_region_lit<|g9 U (.loadBR a1 (i:=23) rfl rfl U38 rfl ip (by simp) (by dsimp only [List.drop,List.take] <;> rfl) .nil) fun Y U=>plz (ecl U Tryz.func50 rfl (sQ _ vo bl sz pe to _ _ place _ _ _ _ _ _ ((a1.rd (i:=21) rfl).any) (by omega) hN) ?_)
   rintro e gk ⟨gl,gm,rfl,ch,ci⟩
   have ec:=a1.callF 25 rfl ci ch
   refine⟨_,rfl,?_⟩;intro Y U
   refine g9 U (.move rfl<|.extract rfl rfl<|.extract rfl rfl .nil) fun Y U=>plz<|hZ U ec 26 iA rfl fun gn Y gp U ed _ _=>plz (stw U ed 26 hH fun gq ds _ =>?_)
   refine gz hK9 U (.assign rfl .nil) fun Y U=>wsk fun gr cj =>?_
   replace U:=U.oz [0,4,5,7,8,9,10]
   refine hC U (.move rfl<|.neq rfl rfl .nil) fun Y U=>bcF U 42 fun U=>wcf U<|zss<|cj _ _<|hC U (.assign rfl .nil) fun Y U=>wsk fun gs bn=>wp_block<|wp_loop_ghost (fun g a w => ∃ (k B4 B5 B9 c8 c9 n1 d1 n2 d2:Nat) (p8 p9 q1 q2:Option Addr),k≤(L.map ij).length∧(∀ i,i<k→∀ z,L[i]? = some z→z.vo<vo)∧g=(L.map ij).length - k∧Has 97 [(0,.pointer (some ⟨B,0,none⟩)),(4,.pointer (some ⟨B4,0,none⟩)),(5,.pointer (some ⟨B5,0,none⟩)),(7,.int .i64 k),(8,.slice p8 (L.map ij).length c8),(9,.pointer (some ⟨B9,0,none⟩))] a∧MemOk X w0 [(1,.box B 32 [.slice p (L.map ij).length c]),(2,.dat (.slice p (L.map ij).length c) (.l 11 (L.map ij))),(4,.box B4 44 [.int .i64 0,.int .i64 0,.int .i64 0,.int .i64 0,.slice none 0 0]),(5,.box B5 38 [.int .i64 kd,.int .i64 vo,.int .i64 bl,.int .i64 sz,.int .i64 pe,.slice q1 n1 d1,.int .i64 to,.int .i64 at0,.int .i64 ix,.slice q2 n2 d2]),(9,.box B9 51 [.int .i64 vo,.int .i64 bl,.int .i64 sz,.int .i64 pe,.slice p9 place.length c9,.int .i64 to,.int .i64 0,.bool (decide (0<to)),.int .i64 0,.slice none 0 0,.slice none 0 0]),(8,.dat (.slice p8 (L.map ij).length c8) (.l 11 (L.map ij))),(10,.dat (.slice p9 place.length c9) (.ns .i64 place))] w) ((L.map ij).length) ?_ ?_
   · exact⟨0,_,_,_,_,_,_,_,_,_,_,_,_,_,Nat.zero_le _,(fun i hi=>absurd hi (Nat.not_lt_zero i)),rfl,U.only [0,4,5,7,8,9],ds.ren [(1,1),(2,2),(4,20),(5,23),(9,26),(8,24),(10,25)] (by decide)⟩
   clear U ds
   rintro g Y gu ⟨k,B4,B5,B9,c8,c9,n1,d1,n2,d2,p8,p9,q1,q2,hkl,hbl,hg,U,ck⟩
   refine wsk fun gv cl=>wsk fun gw bo =>?_
   by_cases hk:k<(L.map ij).length
   ·
    obtain⟨z9,hes9⟩:∃ x,L[k]? = some x:=⟨_,List.getElem?_eq_getElem (by simpa using hk)⟩
    obtain⟨gx,gy,ee,cm,co,cq,dt⟩:=ck.openR (i:=8) rfl (k) (r:=[.v (.int .i64 z9.vo),.v (.int .i64 z9.bl),.v (.int .i64 z9.sz),.v (.int .i64 z9.pe),.ns .i64 z9.place,.v (.int .i64 z9.to),.v (.int .i64 z9.ne),.v (.bool z9.hi),.v (.int .i64 z9.fl),.ns .i64 z9.pins,.l 2 (z9.ws.map wrD)]) (iT hes9) 100 rfl
    revert U
    cases cm;clear ck cq
    rcases co with _|⟨aB,_|⟨aC,_|⟨aD,_|⟨aE,_|⟨ai,_|⟨aF,_|⟨aG,_|⟨aH,_|⟨aI,_|⟨aj,_|⟨ac,_|_⟩⟩⟩⟩⟩⟩⟩⟩⟩⟩⟩
    obtain rfl:=aB.v_out
    clear aB
    obtain rfl:=aC.v_out
    clear aC
    obtain rfl:=aD.v_out
    clear aD
    obtain rfl:=aE.v_out
    clear aE
    obtain⟨gA,gB,cr,ef⟩:=ai.ns_shape;subst cr
    intro U
    have du:=dt.dat 101 rfl (ai.cast (fun _ h=>(ia rfl h)));clear dt ai
    revert U
    obtain rfl:=aF.v_out
    clear aF
    obtain rfl:=aG.v_out
    clear aG
    obtain rfl:=aH.v_out
    clear aH
    obtain rfl:=aI.v_out
    clear aI
    obtain⟨gC,gD,cs,eg⟩:=aj.ns_shape;subst cs
    intro U
    have dv:=du.dat 102 rfl (aj.cast (fun _ h=>(ia rfl (ia rfl h))));clear du aj
    revert U
    obtain⟨gE,gF,ct,eh⟩:=ac.l_shape;subst ct
    intro U
    have ei:=dv.dat 103 rfl (ac.cast (fun _ h=>(ia rfl (ia rfl (ia rfl h)))));clear dv ac
    have cu:=ei.oz [1,2,4,5,8,9,10,100,101,102,103]
    refine region_p 14 (B:=[(1,_),(2,_),(4,_),(5,_),(8,_),(9,_),(10,_),(100,_),(101,_),(102,_),(103,_)]) (cu.to kj) cu (by kernel_rfl) (fun gG bp cf =>?_);clear cu
    refine goA bp [0,1,2,3,4] 5 0 31 U (cf.to kj) (.move rfl<|.move rfl<|.len rfl U30<|.lss rfl rfl<|.move rfl .nil) fun Y U=>bc U 49 ?_ ?_
    rotate_left
    · intro hb _;exact absurd hb (by simpa using hk)
    clear U;intro _ U
    refine goR bp [5,6,7,8,9,10,11,12,13] [9,11] 9 31 16383 U (cf.to kj) (.move rfl<|.move rfl<|.p (fun _ _ h_=>ii h_ rfl rfl U30 hH (k) rfl hk)<|.fieldAddrQ 0 rfl U51 rfl (s:=0) (by kernel_rfl) rfl<|.loadC0 hh (i:=100) rfl rfl U3 rfl<|.fa 1 rfl U38<|.lb hh 5 U3 rfl rfl rfl<|.lss rfl rfl<|.pickT rfl rfl .nil) fun Y U=>wad<|bo _ _<|bc U 58 ?_ ?_
    ·
     intro aJ U;try simp only [QQ,Qax] at aJ
     have hlt9:z9.vo<vo:=by simpa using aJ
     refine wct U<|zss<|cl _ _<|wp_block ?_
     replace U:=U.oz [0,4,5,7,8,9]
     refine wp_region_lit<|g9 U (.move rfl<|.inc (k+1)<|.assign rfl .nil) fun Y U=>wpList_nil ?_
     show ∃ n',n'<_∧_
     exact⟨(L.map ij).length - (k+1),by omega,k+1,_,_,_,_,_,_,_,_,_,_,_,_,_,by omega,sP hbl hes9 hlt9,rfl,U.only [0,4,5,7,8,9],cf.only [1,2,4,5,9,8,10]⟩
    intro aJ U;try simp only [QQ,Qax] at aJ
    have hge9:∀ z,L[k]? = some z→¬ z.vo<vo:=fun z hz=>by rw[hes9] at hz;injection hz with hz;subst hz;simpa using aJ
    refine wcf U<|wp_exit<|bn _ _<|wsk fun gH bq =>?_
    replace U:=U.oz [0,4,5,7,8,9]
    have cv:=cf.oz [1,2,4,5,8,9,10,100,101,102,103]
    refine region_p 14 (B:=[(1,_),(2,_),(4,_),(5,_),(8,_),(9,_),(10,_),(100,_),(101,_),(102,_),(103,_)]) (cv.to kj) cv (by kernel_rfl) (fun gI aK cw =>?_);clear cv
    refine goA aK [0,1,2] 3 0 7 U (cw.to kj) (.move rfl<|.move rfl<|.move rfl .nil) fun Y U =>?_
    have aN:=Rd.capL (cw.rd (i:=8) rfl)
    have br:=cw.takeR (i:=8) rfl k hkl 104 rfl
    refine goR aK [3,5,8,9] [5] 4 7 815 U (br.to kj) (.p (fun _ _ h_=>ji h_ k rfl rfl U30 hH rfl (Nat.le_trans hkl aN))<|.loadBR hh (i:=9) rfl rfl U51 rfl hH (by simp) (by dsimp only [List.drop,List.take] <;> rfl)<|.move rfl<|.move rfl .nil) fun Y U =>?_
    have aO:=br.dropR (i:=8) rfl k hkl 105 rfl
    refine goA aK [10] 1 815 1839 U (aO.to kj) (.p (fun _ _ h_=>iK h_ k rfl rfl U30 hH rfl hkl) .nil) fun Y U=>qI 4 6 rfl rfl (by kernel_rfl) rfl rfl (fun K hK =>?_) (fun K hK =>?_)
    ·
     have bs:=aO.nilR 106 51 11
     refine iM U bs 106 rfl rfl rfl (bs.rd (i:=104) rfl) U30 jD rfl rfl (by decide) (by simp;omega) rfl ?_
     intro ej ek Y el U a2
     refine hK _ _ (fun _=>(a2.to kj)) ?_;clear hK K
     refine so 6 ?_
     refine iN U a2 107 (mm:=11) rfl (.cons rfl rfl (.cons (.v _) (.cons (.v _) (.cons (.v _) (.cons (.v _) (.cons (a2.rd (i:=10) rfl) (.cons (.v _) (.cons (.v _) (.cons (.v _) (.cons (.v _) (.cons (Rd.nilN _ _ .i64 _) (.cons (.l0 _ _ 2) .nil))))))))))) .nil) U30 jD rfl rfl rfl rfl rfl fun em Y en U bt=>⟨bt.to kj,?_⟩
     have bu:=bt.freezeR 107 rfl
     refine so 7 ?_
     refine iM U bu 106 rfl rfl rfl (bu.rd (i:=107) rfl) U30 jD rfl rfl (by decide) (by simp;omega) rfl fun eo ep Y er U a3=>⟨a3.to kj,?_⟩
     refine so 11 ?_
     refine iM U a3 106 rfl rfl rfl (a3.rd (i:=105) rfl) U30 jD rfl rfl (by decide) (by simp;omega) rfl fun es et Y eu U a4=>⟨a4.to kj,?_⟩
     refine goA aK [12,13] 2 4095 16383 U (a4.to kj) (.nilCheck rfl<|.fa 0 rfl U32 .nil) fun Y U=>se 14 ?_
     refine st1 U a4 1 mT fun ew cy _ =>?_
     refine wad<|bq _ _ ?_
     replace U:=U.oz [0,4,5,7,8,9]
     refine zsr fun gJ cz=>g9 U (.build rfl iL kI rfl (by dsimp only [iY,List.set] <;> rfl) .nil) fun Y U=>plz (stw U cy 4 iz fun ex bv _ =>?_)
     refine znl<|cz _ _<|rtd (kG (fn:=Tryz.f15) U bv (i:=4) rfl rfl rfl U44 rfl iz ?_)
     have bw:=bv.freezeR 106 rfl
     have hrw:[]++List.take k (L.map ij)++[[.v (.int .i64 (i5 vo bl sz pe to place).vo),.v (.int .i64 (i5 vo bl sz pe to place).bl),.v (.int .i64 (i5 vo bl sz pe to place).sz),.v (.int .i64 (i5 vo bl sz pe to place).pe),.ns .i64 (i5 vo bl sz pe to place).place,.v (.int .i64 (i5 vo bl sz pe to place).to),.v (.int .i64 (i5 vo bl sz pe to place).ne),.v (.bool (i5 vo bl sz pe to place).hi),.v (.int .i64 (i5 vo bl sz pe to place).fl),.ns .i64 (i5 vo bl sz pe to place).pins,.l 2 ((i5 vo bl sz pe to place).ws.map wrD)]]++List.drop k (L.map ij)=(L.take k++[i5 vo bl sz pe to place]++L.drop k).map ij:=by simp [ij,i5]
     simp only [i5] at hrw
     erw [hrw] at bw
     exact⟨L.take k++[i5 vo bl sz pe to place]++L.drop k,0,0,0,0,_,_,rfl,lw (c:=(⟨kd,vo,bl,sz,pe,place,to,at0,ix,items⟩:Cm)) hkd hnx hN (by simpa using hkl) hbl hge9,bw.ren [(1,1),(2,106)] (by decide)⟩
    refine iN U aO 106 (mm:=11) rfl (.cons rfl rfl (.cons (.v _) (.cons (.v _) (.cons (.v _) (.cons (.v _) (.cons (aO.rd (i:=10) rfl) (.cons (.v _) (.cons (.v _) (.cons (.v _) (.cons (.v _) (.cons (Rd.nilN _ _ .i64 _) (.cons (.l0 _ _ 2) .nil))))))))))) .nil) U30 jD rfl rfl rfl rfl rfl ?_
    intro ey Y ez U bx
    refine hK _ _ (fun _=>(bx.to kj)) ?_;clear hK K
    have bz:=bx.nilR 107 51 11
    refine so 4 ?_
    refine iM U bz 107 rfl rfl rfl (bz.rd (i:=104) rfl) U30 jD rfl rfl (by decide) (by simp;omega) rfl fun eA eB Y eC U bA=>⟨bA.to kj,?_⟩
    have bB:=bA.freezeR 106 rfl
    refine so 7 ?_
    refine iM U bB 107 rfl rfl rfl (bB.rd (i:=106) rfl) U30 jD rfl rfl (by decide) (by simp;omega) rfl fun eD eE Y eF U a5=>⟨a5.to kj,?_⟩
    refine so 11 ?_
    refine iM U a5 107 rfl rfl rfl (a5.rd (i:=105) rfl) U30 jD rfl rfl (by decide) (by simp;omega) rfl fun eG eH Y eI U a6=>⟨a6.to kj,?_⟩
    refine goA aK [12,13] 2 4095 16383 U (a6.to kj) (.nilCheck rfl<|.fa 0 rfl U32 .nil) fun Y U=>se 14 ?_
    refine st1 U a6 1 mT fun eJ cA _ =>?_
    refine wad<|bq _ _ ?_
    replace U:=U.oz [0,4,5,7,8,9]
    refine zsr fun gK cB=>g9 U (.build rfl iL kI rfl (by dsimp only [iY,List.set] <;> rfl) .nil) fun Y U=>plz (stw U cA 4 iz fun eK bC _ =>?_)
    refine znl<|cB _ _<|rtd (kG (fn:=Tryz.f15) U bC (i:=4) rfl rfl rfl U44 rfl iz ?_)
    have bE:=bC.freezeR 107 rfl
    have hrw:[]++List.take k (L.map ij)++[[.v (.int .i64 (i5 vo bl sz pe to place).vo),.v (.int .i64 (i5 vo bl sz pe to place).bl),.v (.int .i64 (i5 vo bl sz pe to place).sz),.v (.int .i64 (i5 vo bl sz pe to place).pe),.ns .i64 (i5 vo bl sz pe to place).place,.v (.int .i64 (i5 vo bl sz pe to place).to),.v (.int .i64 (i5 vo bl sz pe to place).ne),.v (.bool (i5 vo bl sz pe to place).hi),.v (.int .i64 (i5 vo bl sz pe to place).fl),.ns .i64 (i5 vo bl sz pe to place).pins,.l 2 ((i5 vo bl sz pe to place).ws.map wrD)]]++List.drop k (L.map ij)=(L.take k++[i5 vo bl sz pe to place]++L.drop k).map ij:=by simp [ij,i5]
    simp only [i5] at hrw
    erw [hrw] at bE
    exact⟨L.take k++[i5 vo bl sz pe to place]++L.drop k,0,0,0,0,_,_,rfl,lw (c:=(⟨kd,vo,bl,sz,pe,place,to,at0,ix,items⟩:Cm)) hkd hnx hN (by simpa using hkl) hbl hge9,bE.ren [(1,1),(2,107)] (by decide)⟩
   have hge9:∀ z,L[k]? = some z→¬ z.vo<vo:=fun z hz=>absurd (List.getElem?_eq_some_iff.1 hz).1 (by simpa using hk)
   have a7:=ck.oz [1,2,4,5,8,9,10]
   refine region_p 14 (B:=[(1,_),(2,_),(4,_),(5,_),(8,_),(9,_),(10,_)]) (a7.to i7l) a7 (by kernel_rfl) (fun eL aV a8 =>?_);clear a7
   refine goA aV [0,1,2,3,4] 5 0 31 U (a8.to i7l) (.move rfl<|.move rfl<|.len rfl U30<|.lss rfl rfl<|.move rfl .nil) fun Y U=>bc U 49 ?_ ?_
   · intro hb _;exact absurd hb (by simpa using hk)
   clear U;intro _ U
   refine goA aV [5,6,7,8,9,10,11,12,13] 9 31 16383 U (a8.to i7l) (.s<|.s<|.s<|.s<|.s<|.s<|.s<|.s<|.pickF rfl rfl .nil) fun Y U=>wad<|bo _ _<|wcf U<|wp_exit<|bn _ _<|wsk fun gL bF =>?_
   replace U:=U.oz [0,4,5,7,8,9]
   have a9:=a8.oz [1,2,4,5,8,9,10]
   refine region_p 14 (B:=[(1,_),(2,_),(4,_),(5,_),(8,_),(9,_),(10,_)]) (a9.to i7l) a9 (by kernel_rfl) (fun eM ag ba =>?_);clear a9
   refine goA ag [0,1,2] 3 0 7 U (ba.to i7l) (.move rfl<|.move rfl<|.move rfl .nil) fun Y U =>?_
   have aP:=Rd.capL (ba.rd (i:=8) rfl)
   have bG:=ba.takeR (i:=8) rfl k hkl 100 rfl
   refine goR ag [3,5,8,9] [5] 4 7 815 U (bG.to i7l) (.p (fun _ _ h_=>ji h_ k rfl rfl U30 hH rfl (Nat.le_trans hkl aP))<|.loadBR hh (i:=9) rfl rfl U51 rfl hH (by simp) (by dsimp only [List.drop,List.take] <;> rfl)<|.move rfl<|.move rfl .nil) fun Y U =>?_
   have aQ:=bG.dropR (i:=8) rfl k hkl 101 rfl
   refine goA ag [10] 1 815 1839 U (aQ.to i7l) (.p (fun _ _ h_=>iK h_ k rfl rfl U30 hH rfl hkl) .nil) fun Y U=>qI 4 6 rfl rfl (by kernel_rfl) rfl rfl (fun K hK =>?_) (fun K hK =>?_)
   ·
    have bH:=aQ.nilR 102 51 11
    refine iM U bH 102 rfl rfl rfl (bH.rd (i:=100) rfl) U30 jD rfl rfl (by decide) (by simp;omega) rfl ?_
    intro eN eO Y eP U bb
    refine hK _ _ (fun _=>(bb.to i7l)) ?_;clear hK K
    refine so 6 ?_
    refine iN U bb 103 (mm:=11) rfl (.cons rfl rfl (.cons (.v _) (.cons (.v _) (.cons (.v _) (.cons (.v _) (.cons (bb.rd (i:=10) rfl) (.cons (.v _) (.cons (.v _) (.cons (.v _) (.cons (.v _) (.cons (Rd.nilN _ _ .i64 _) (.cons (.l0 _ _ 2) .nil))))))))))) .nil) U30 jD rfl rfl rfl rfl rfl fun eQ Y eR U bI=>⟨bI.to i7l,?_⟩
    have bJ:=bI.freezeR 103 rfl
    refine so 7 ?_
    refine iM U bJ 102 rfl rfl rfl (bJ.rd (i:=103) rfl) U30 jD rfl rfl (by decide) (by simp;omega) rfl fun eS eT Y eU U bd=>⟨bd.to i7l,?_⟩
    refine so 11 ?_
    refine iM U bd 102 rfl rfl rfl (bd.rd (i:=101) rfl) U30 jD rfl rfl (by decide) (by simp;omega) rfl fun eV eW Y eX U be=>⟨be.to i7l,?_⟩
    refine goA ag [12,13] 2 4095 16383 U (be.to i7l) (.nilCheck rfl<|.fa 0 rfl U32 .nil) fun Y U=>se 14 ?_
    refine st1 U be 1 mT fun eY cC _ =>?_
    refine wad<|bF _ _ ?_
    replace U:=U.oz [0,4,5,7,8,9]
    refine zsr fun gM cD=>g9 U (.build rfl iL kI rfl (by dsimp only [iY,List.set] <;> rfl) .nil) fun Y U=>plz (stw U cC 4 iz fun eZ bK _ =>?_)
    refine znl<|cD _ _<|rtd (kG (fn:=Tryz.f15) U bK (i:=4) rfl rfl rfl U44 rfl iz ?_)
    have bL:=bK.freezeR 102 rfl
    have hrw:[]++List.take k (L.map ij)++[[.v (.int .i64 (i5 vo bl sz pe to place).vo),.v (.int .i64 (i5 vo bl sz pe to place).bl),.v (.int .i64 (i5 vo bl sz pe to place).sz),.v (.int .i64 (i5 vo bl sz pe to place).pe),.ns .i64 (i5 vo bl sz pe to place).place,.v (.int .i64 (i5 vo bl sz pe to place).to),.v (.int .i64 (i5 vo bl sz pe to place).ne),.v (.bool (i5 vo bl sz pe to place).hi),.v (.int .i64 (i5 vo bl sz pe to place).fl),.ns .i64 (i5 vo bl sz pe to place).pins,.l 2 ((i5 vo bl sz pe to place).ws.map wrD)]]++List.drop k (L.map ij)=(L.take k++[i5 vo bl sz pe to place]++L.drop k).map ij:=by simp [ij,i5]
    simp only [i5] at hrw
    erw [hrw] at bL
    exact⟨L.take k++[i5 vo bl sz pe to place]++L.drop k,0,0,0,0,_,_,rfl,lw (c:=(⟨kd,vo,bl,sz,pe,place,to,at0,ix,items⟩:Cm)) hkd hnx hN (by simpa using hkl) hbl hge9,bL.ren [(1,1),(2,102)] (by decide)⟩
   refine iN U aQ 102 (mm:=11) rfl (.cons rfl rfl (.cons (.v _) (.cons (.v _) (.cons (.v _) (.cons (.v _) (.cons (aQ.rd (i:=10) rfl) (.cons (.v _) (.cons (.v _) (.cons (.v _) (.cons (.v _) (.cons (Rd.nilN _ _ .i64 _) (.cons (.l0 _ _ 2) .nil))))))))))) .nil) U30 jD rfl rfl rfl rfl rfl ?_
   intro e0 Y e1 U bM
   refine hK _ _ (fun _=>(bM.to i7l)) ?_;clear hK K
   have bN:=bM.nilR 103 51 11
   refine so 4 ?_
   refine iM U bN 103 rfl rfl rfl (bN.rd (i:=100) rfl) U30 jD rfl rfl (by decide) (by simp;omega) rfl fun e2 e3 Y e4 U bO=>⟨bO.to i7l,?_⟩
   have bP:=bO.freezeR 102 rfl
   refine so 7 ?_
   refine iM U bP 103 rfl rfl rfl (bP.rd (i:=102) rfl) U30 jD rfl rfl (by decide) (by simp;omega) rfl fun e5 e6 Y e7 U bf=>⟨bf.to i7l,?_⟩
   refine so 11 ?_
   refine iM U bf 103 rfl rfl rfl (bf.rd (i:=101) rfl) U30 jD rfl rfl (by decide) (by simp;omega) rfl fun e8 fb Y fc U bg=>⟨bg.to i7l,?_⟩
   refine goA ag [12,13] 2 4095 16383 U (bg.to i7l) (.nilCheck rfl<|.fa 0 rfl U32 .nil) fun Y U=>se 14 ?_
   refine st1 U bg 1 mT fun fd cE _ =>?_
   refine wad<|bF _ _ ?_
   replace U:=U.oz [0,4,5,7,8,9]
   refine zsr fun gN cF=>g9 U (.build rfl iL kI rfl (by dsimp only [iY,List.set] <;> rfl) .nil) fun Y U=>plz (stw U cE 4 iz fun fe bQ _ =>?_)
   refine znl<|cF _ _<|rtd (kG (fn:=Tryz.f15) U bQ (i:=4) rfl rfl rfl U44 rfl iz ?_)
   have bR:=bQ.freezeR 103 rfl
   have hrw:[]++List.take k (L.map ij)++[[.v (.int .i64 (i5 vo bl sz pe to place).vo),.v (.int .i64 (i5 vo bl sz pe to place).bl),.v (.int .i64 (i5 vo bl sz pe to place).sz),.v (.int .i64 (i5 vo bl sz pe to place).pe),.ns .i64 (i5 vo bl sz pe to place).place,.v (.int .i64 (i5 vo bl sz pe to place).to),.v (.int .i64 (i5 vo bl sz pe to place).ne),.v (.bool (i5 vo bl sz pe to place).hi),.v (.int .i64 (i5 vo bl sz pe to place).fl),.ns .i64 (i5 vo bl sz pe to place).pins,.l 2 ((i5 vo bl sz pe to place).ws.map wrD)]]++List.drop k (L.map ij)=(L.take k++[i5 vo bl sz pe to place]++L.drop k).map ij:=by simp [ij,i5]
   simp only [i5] at hrw
   erw [hrw] at bR
   exact⟨L.take k++[i5 vo bl sz pe to place]++L.drop k,0,0,0,0,_,_,rfl,lw (c:=(⟨kd,vo,bl,sz,pe,place,to,at0,ix,items⟩:Cm)) hkd hnx hN (by simpa using hkl) hbl hge9,bR.ren [(1,1),(2,103)] (by decide)⟩
  refine wp_region_lit<|g9 U (.loadBR a1 (i:=23) rfl rfl U38 rfl ip (by simp) (by dsimp only [List.drop,List.take] <;> rfl) .nil) fun Y U=>plz<|ecb U Tryz.func50 rfl a1 (sR _ vo bl sz pe to _ _ place _ _ _ _ _ _ ((a1.rd (i:=21) rfl).any) (by omega) hN) fun Y ff U cG=>g9 U (.move rfl<|.extract rfl rfl<|.extract rfl rfl .nil) fun Y U=>plz<|hZ U cG 25 iA rfl fun fg Y fh U cH _ _=>plz (stw U cH 25 hH fun fi cI _ =>?_)
  refine gz hK9 U (.assign rfl .nil) fun Y U=>wsk fun gO fj =>?_
  replace U:=U.oz [0,4,5,7,8,9,10]
  refine hC U (.move rfl<|.neq rfl rfl .nil) fun Y U=>bcT U 42 fun U=>wct U<|zsr fun gP cJ=>g9 U (.move rfl<|.build rfl iL kI rfl (by dsimp only [iY,List.set] <;> rfl) .nil) fun Y U=>plz (stw U cI 20 iz fun fk aR _ =>?_)
  refine znl<|cJ _ _<|rtd (kG (fn:=Tryz.f15) U aR (i:=20) rfl rfl rfl U44 rfl iz ?_)
  first|exact⟨L,_,_,_,_,_,_,rfl,k9 (c:=(⟨kd,vo,bl,sz,pe,place,to,at0,ix,items⟩:Cm)) hkd hex,aR.only [1,2]⟩|exact⟨L,_,_,_,_,_,_,rfl,ku (c:=(⟨kd,vo,bl,sz,pe,place,to,at0,ix,items⟩:Cm)) hkd hnx hN,aR.only [1,2]⟩|exact⟨L,_,_,_,_,_,_,rfl,km (c:=(⟨kd,vo,bl,sz,pe,place,to,at0,ix,items⟩:Cm)) hkn hnx,aR.only [1,2]⟩
 intro az U;try simp only [QQ,Qax] at az
 have hkn:¬ kd=1:=by simpa using az
 refine wcf U<|zss<|hK5 _ _<|wsk fun gQ cK =>?_
 replace U:=U.oz [0,4,5,7,8]
 refine hC U (.move rfl<|.lss rfl rfl .nil) fun Y U=>bc U 77 ?_ ?_
 ·
  intro ah U;try simp only [QQ,Qax] at ah
  have hnx:¬ ∃ y∈L,y.vo=vo:=qV hj (by have h9:=ah;first|omega|(simp at h9;omega))
  refine wct U<|zsr fun gR cL=>g9 U (.build rfl iL kI rfl (by dsimp only [iY,List.set] <;> rfl) .nil) fun Y U=>plz (stw U bm 20 iz fun fm aS _ =>?_)
  refine znl<|cL _ _<|rtd (kG (fn:=Tryz.f15) U aS (i:=20) rfl rfl rfl U44 rfl iz ?_)
  first|exact⟨L,_,_,_,_,_,_,rfl,k9 (c:=(⟨kd,vo,bl,sz,pe,place,to,at0,ix,items⟩:Cm)) hkd hex,aS.only [1,2]⟩|exact⟨L,_,_,_,_,_,_,rfl,ku (c:=(⟨kd,vo,bl,sz,pe,place,to,at0,ix,items⟩:Cm)) hkd hnx hN,aS.only [1,2]⟩|exact⟨L,_,_,_,_,_,_,rfl,km (c:=(⟨kd,vo,bl,sz,pe,place,to,at0,ix,items⟩:Cm)) hkn hnx,aS.only [1,2]⟩
 intro ah U;try simp only [QQ,Qax] at ah
 revert U
 obtain⟨jn,x,rfl,hes,hxv⟩:=qW hj (by have h9:=ah;first|omega|(simp at h9;omega))
 intro U
 have hjl:jn<L.length:=(List.getElem?_eq_some_iff.1 hes).1
 refine wcf U<|zss<|cK _ _<|wsk fun bh cM =>?_
 have aw:∀ (a:Act) (w:World),(∃ (y:VolV) (e9 rl rf rn:Int) (B4 cN cO c8 d1 d2 d3:Nat) (p8 p1 p2 p3:Option Addr),doV x (⟨kd,vo,bl,sz,pe,place,to,at0,ix,items⟩:Cm)=(y,e9)∧nu y e9=(rl,rf,rn)∧Has 97 [(0,.pointer (some ⟨B,0,none⟩)),(4,.pointer (some ⟨B4,0,none⟩)),(7,.int .i64 jn),(8,.slice p8 ([]++(L.map ij)).length c8),(11,.pointer (some ⟨cN,0,none⟩)),(12,.pointer (some ⟨cO,0,none⟩))] a∧MemOk X w0 [(1,.box B 32 [.slice p (L.map ij).length c]),(2,.dat (.slice p (L.map ij).length c) (.l 11 (L.map ij))),(4,.box B4 44 [.int .i64 0,.int .i64 0,.int .i64 0,.int .i64 0,.slice none 0 0]),(8,.row (.slice p8 ([]++(L.map ij)).length c8) 51 11 ([]++(L.map ij))),(11,.box cN 51 [.int .i64 y.vo,.int .i64 y.bl,.int .i64 y.sz,.int .i64 y.pe,.slice p1 y.place.length d1,.int .i64 y.to,.int .i64 y.ne,.bool y.hi,.int .i64 y.fl,.slice p2 y.pins.length d2,.slice p3 (y.ws.map wrD).length d3]),(12,.box cO 44 [.int .i64 e9,.int .i64 rl,.int .i64 rf,.int .i64 rn,.slice none 0 0]),(13,.dat (.slice p1 y.place.length d1) (.ns .i64 y.place)),(14,.dat (.slice p2 y.pins.length d2) (.ns .i64 y.pins)),(15,.dat (.slice p3 (y.ws.map wrD).length d3) (.l 2 (y.ws.map wrD)))] w)→bh a w:=by
   clear U bm
   rintro Y fo ⟨y,e9,rl,rf,rn,B4,cN,cO,c8,d1,d2,d3,p8,p1,p2,p3,hdo,hrp,U,ax⟩
   refine cM _ _<|zsr fun gS cP=>g9 U (.move rfl<|.move rfl<|.loadBR ax (i:=11) rfl rfl U51 rfl hH (by simp) (by dsimp only [List.drop,List.take] <;> rfl) .nil) fun Y U =>?_
   obtain⟨dw,dx,bS,_⟩:=ax.openC (i:=8) rfl (Nat.lt_of_le_of_lt (Nat.zero_le jn) (by simpa using hjl));cases bS
   refine g9 U (.c rfl (fun _ h_=>ii h_ rfl rfl U30 hH (jn) rfl (by simpa using hjl)) .nil) fun Y U=>plz<|qH U ax 8 rfl (jn) (by simpa using hjl) rfl rfl rfl rfl rfl hH (.cons (.v _) (.cons (.v _) (.cons (.v _) (.cons (.v _) (.cons (ax.rd (i:=13) rfl) (.cons (.v _) (.cons (.v _) (.cons (.v _) (.cons (.v _) (.cons (ax.rd (i:=14) rfl) (.cons (ax.rd (i:=15) rfl) .nil))))))))))) fun fp cQ=>znl (cP _ _ ?_)
   replace U:=U.oz [0,4,8,12]
   refine zsr fun gT cR=>g9 U (.move rfl<|.move rfl<|.nilCheck rfl<|.fa 0 rfl U32 .nil) fun Y U=>plz (st1 U cQ 1 mT fun fq bT _ =>?_)
   refine znl (cR _ _ ?_)
   replace U:=U.oz [4,12]
   refine zsr fun gU cS=>g9 U (.loadBR bT (i:=12) rfl rfl U44 rfl iz (by simp) (by dsimp only [List.drop,List.take] <;> rfl) .nil) fun Y U=>plz (stw U bT 4 iz fun fr bU _ =>?_)
   refine znl<|cS _ _<|rtd (kG (fn:=Tryz.f15) U bU (i:=4) rfl rfl rfl U44 rfl iz ?_)
   have bV:=bU.freezeR 8 rfl
   have hrw:([]++(L.map ij)).set jn [.v (.int .i64 y.vo),.v (.int .i64 y.bl),.v (.int .i64 y.sz),.v (.int .i64 y.pe),.ns .i64 y.place,.v (.int .i64 y.to),.v (.int .i64 y.ne),.v (.bool y.hi),.v (.int .i64 y.fl),.ns .i64 y.pins,.l 2 (y.ws.map wrD)]=(L.set jn y).map ij:=by rw[List.nil_append,List.map_set];rfl
   have hln:([]++(L.map ij)).length=((L.set jn y).map ij).length:=by simp
   rw[hrw,hln] at bV
   exact⟨L.set jn y,_,_,_,_,_,_,rfl,la (c:=(⟨kd,vo,bl,sz,pe,place,to,at0,ix,items⟩:Cm)) hkn hU hes hxv hdo hrp,bV.ren [(1,1),(2,8)] (by decide)⟩
 obtain⟨dy,dz,bW,bi⟩:=bm.openC (i:=24) rfl (Nat.lt_of_le_of_lt (Nat.zero_le (jn)) (by simpa using hjl))
 revert U
 cases bW
 intro U
 obtain⟨dA,bX,bY⟩:=bi.eltC (i:=24) rfl (jn) (r:=[.v (.int .i64 x.vo),.v (.int .i64 x.bl),.v (.int .i64 x.sz),.v (.int .i64 x.pe),.ns .i64 x.place,.v (.int .i64 x.to),.v (.int .i64 x.ne),.v (.bool x.hi),.v (.int .i64 x.fl),.ns .i64 x.pins,.l 2 (x.ws.map wrD)]) (by simpa using iT hes)
 revert U
 rcases bY with _|⟨ak,_|⟨al,_|⟨ao,_|⟨ap,_|⟨ad,_|⟨aq,_|⟨ar,_|⟨au,_|⟨av,_|⟨ae,_|⟨aa,_|_⟩⟩⟩⟩⟩⟩⟩⟩⟩⟩⟩
 obtain rfl:=ak.v_out
 clear ak
 obtain rfl:=al.v_out
 clear al
 obtain rfl:=ao.v_out
 clear ao
 obtain rfl:=ap.v_out
 clear ap
 obtain⟨fs,ft,bZ,dB⟩:=ad.ns_shape;subst bZ
 intro U
 have b0:=bi.dat 25 rfl (ad.cast (fun _ h=>h));clear bi ad
 revert U
 obtain rfl:=aq.v_out
 clear aq
 obtain rfl:=ar.v_out
 clear ar
 obtain rfl:=au.v_out
 clear au
 obtain rfl:=av.v_out
 clear av
 obtain⟨fu,fv,b1,dC⟩:=ae.ns_shape;subst b1
 intro U
 have b4:=b0.dat 26 rfl (ae.cast (fun _ h=>(ia rfl h)));clear b0 ae
 revert U
 obtain⟨fw,fx,b5,dD⟩:=aa.l_shape;subst b5
 intro U
 have cT:=b4.dat 27 rfl (aa.cast (fun _ h=>(ia rfl (ia rfl h))));clear b4 aa
 have bj:=cT.oz [1,2,20,21,22,23,24,25,26,27]
 refine region_p 5 (B:=[(1,_),(2,_),(20,_),(21,_),(22,_),(23,_),(24,_),(25,_),(26,_),(27,_)]) (bj.to wG) bj (by kernel_rfl) (fun fy ab ay =>?_);clear bj
 refine goR ab [0,1,2,3,4] [3,4] 5 0 31 U (ay.to wG) (.move rfl<|.move rfl<|.p (fun _ _ h_=>ii h_ rfl rfl U30 hH (jn) rfl (by simpa using hjl))<|.c (fun _ hW _ h_=>sH h_ hW (i:=24) rfl (jn) bX rfl U51 rfl hH)<|.loadBR hh (i:=23) rfl rfl U38 rfl ip (by simp) (by dsimp only [List.drop,List.take] <;> rfl) .nil) fun Y U=>dth 5 9 10 ?_ ?_ ?_
 ·
  refine ecl U Tryz.func40 rfl (qT _ x (⟨kd,vo,bl,sz,pe,place,to,at0,ix,items⟩:Cm) n (hV _ (List.mem_of_getElem? hes)) hn (show items.length≤1000000 by have:=hc.il;omega) (fun e he=>itok (hc.ib e he).2) _ _ _ _ _ _ _ _ _ _ _ _ _ _ _ _ _ (ay.into [(1,25),(2,26),(3,27),(4,22)] (by decide) rfl)) ?_
  rintro e fz ⟨y,e9,rl,rf,rn,dE,dF,dG,dH,dI,dJ,rfl,hdo,hrp,aW⟩
  have b6:=ay.back aW [(28,1),(29,2),(30,3)] (by decide);clear aW ay
  have b7:=b6.oz [28,29,30,1,2,20,21,23,24]
  refine⟨_,rfl,?_⟩;intro Y U
  refine⟨fun h=>(Bool.false_ne_true (h.symm.trans (by rfl))).elim,?_⟩
  refine goB ab [6,7,8] 3 63 511 U (.move rfl<|.extract rfl rfl<|.extract rfl rfl .nil) fun Y U=>dtw 9 10 ?_ ?_
  ·
   refine hZ U b7 31 iA rfl fun fA Y fB U cU _ _=>⟨fun h=>(Bool.false_ne_true (h.symm.trans (by rfl))).elim,?_⟩
   refine se 10 ?_
   refine hZ U cU 32 iL rfl fun fC Y fD U cV _ _=>se 11 ?_
   refine stw U cV 31 hH fun fE cW _ =>?_
   refine se 12 ?_
   refine stw U cW 32 iz fun fF cX _ =>?_
   refine wad ?_
   have cY:=cX.closeC 24 rfl
   show bh _ _
   exact aw _ _ ⟨y,_,_,_,_,_,_,_,_,_,_,_,_,_,_,_,hdo,hrp,U.only [0,4,7,8,11,12],cY.ren [(1,1),(2,2),(4,20),(8,24),(11,31),(12,32),(13,28),(14,29),(15,30)] (by decide)⟩
  refine hZ U b7 31 iL rfl fun fG Y fH U cZ _ _=>⟨fun h=>(Bool.false_ne_true (h.symm.trans (by rfl))).elim,?_⟩
  refine se 9 ?_
  refine hZ U cZ 32 iA rfl fun fI Y fJ U c0 _ _=>se 11 ?_
  refine stw U c0 32 hH fun fK c1 _ =>?_
  refine se 12 ?_
  refine stw U c1 31 iz fun fL c2 _ =>?_
  refine wad ?_
  have c3:=c2.closeC 24 rfl
  show bh _ _
  exact aw _ _ ⟨y,_,_,_,_,_,_,_,_,_,_,_,_,_,_,_,hdo,hrp,U.only [0,4,7,8,11,12],c3.ren [(1,1),(2,2),(4,20),(8,24),(11,32),(12,31),(13,28),(14,29),(15,30)] (by decide)⟩
 ·
  refine hZ U ay 28 iA rfl fun fM Y fN U aL _ _=>⟨fun _=>(aL.to wG),?_⟩
  refine dtw 5 10 ?_ ?_
  ·
   refine ecl U Tryz.func40 rfl (qT _ x (⟨kd,vo,bl,sz,pe,place,to,at0,ix,items⟩:Cm) n (hV _ (List.mem_of_getElem? hes)) hn (show items.length≤1000000 by have:=hc.il;omega) (fun e he=>itok (hc.ib e he).2) _ _ _ _ _ _ _ _ _ _ _ _ _ _ _ _ _ (aL.into [(1,25),(2,26),(3,27),(4,22)] (by decide) rfl)) ?_
   rintro e fO ⟨y,e9,rl,rf,rn,dK,dL,dM,dN,dO,dP,rfl,hdo,hrp,aX⟩
   have b8:=aL.back aX [(29,1),(30,2),(31,3)] (by decide);clear aX aL
   have c4:=b8.oz [29,30,31,1,2,20,21,23,24,28]
   refine⟨_,rfl,?_⟩;intro Y U
   refine⟨fun h=>(Bool.false_ne_true (h.symm.trans (by rfl))).elim,?_⟩
   refine goB ab [6,7,8] 3 575 1023 U (.move rfl<|.extract rfl rfl<|.extract rfl rfl .nil) fun Y U=>se 10 ?_
   refine hZ U c4 32 iL rfl fun fP Y fQ U c5 _ _=>se 11 ?_
   refine stw U c5 28 hH fun fR c6 _ =>?_
   refine se 12 ?_
   refine stw U c6 32 iz fun fS c7 _ =>?_
   refine wad ?_
   have da:=c7.closeC 24 rfl
   show bh _ _
   exact aw _ _ ⟨y,_,_,_,_,_,_,_,_,_,_,_,_,_,_,_,hdo,hrp,U.only [0,4,7,8,11,12],da.ren [(1,1),(2,2),(4,20),(8,24),(11,28),(12,32),(13,29),(14,30),(15,31)] (by decide)⟩
  refine hZ U aL 29 iL rfl fun fT Y fU U aT _ _=>⟨fun _=>(aT.to wG),?_⟩
  refine se 5 ?_
  refine ecl U Tryz.func40 rfl (qT _ x (⟨kd,vo,bl,sz,pe,place,to,at0,ix,items⟩:Cm) n (hV _ (List.mem_of_getElem? hes)) hn (show items.length≤1000000 by have:=hc.il;omega) (fun e he=>itok (hc.ib e he).2) _ _ _ _ _ _ _ _ _ _ _ _ _ _ _ _ _ (aT.into [(1,25),(2,26),(3,27),(4,22)] (by decide) rfl)) ?_
  rintro e fV ⟨y,e9,rl,rf,rn,dQ,dR,dS,dT,dU,dV,rfl,hdo,hrp,aY⟩
  have b9:=aT.back aY [(30,1),(31,2),(32,3)] (by decide);clear aY aT
  have db:=b9.oz [30,31,32,1,2,20,21,23,24,28,29]
  refine⟨_,rfl,?_⟩;intro Y U
  refine goB ab [6,7,8] 3 1599 2047 U (.move rfl<|.extract rfl rfl<|.extract rfl rfl .nil) fun Y U=>se 11 ?_
  refine stw U db 28 hH fun fW dc _ =>?_
  refine se 12 ?_
  refine stw U dc 29 iz fun fX de _ =>?_
  refine wad ?_
  have df:=de.closeC 24 rfl
  show bh _ _
  exact aw _ _ ⟨y,_,_,_,_,_,_,_,_,_,_,_,_,_,_,_,hdo,hrp,U.only [0,4,7,8,11,12],df.ren [(1,1),(2,2),(4,20),(8,24),(11,28),(12,29),(13,30),(14,31),(15,32)] (by decide)⟩
 refine hZ U ay 28 iL rfl fun fY Y fZ U aM _ _=>⟨fun _=>(aM.to wG),?_⟩
 refine dtw 5 9 ?_ ?_
 ·
  refine ecl U Tryz.func40 rfl (qT _ x (⟨kd,vo,bl,sz,pe,place,to,at0,ix,items⟩:Cm) n (hV _ (List.mem_of_getElem? hes)) hn (show items.length≤1000000 by have:=hc.il;omega) (fun e he=>itok (hc.ib e he).2) _ _ _ _ _ _ _ _ _ _ _ _ _ _ _ _ _ (aM.into [(1,25),(2,26),(3,27),(4,22)] (by decide) rfl)) ?_
  rintro e f0 ⟨y,e9,rl,rf,rn,dW,dX,dY,dZ,d0,d4,rfl,hdo,hrp,aZ⟩
  have ca:=aM.back aZ [(29,1),(30,2),(31,3)] (by decide);clear aZ aM
  have dg:=ca.oz [29,30,31,1,2,20,21,23,24,28]
  refine⟨_,rfl,?_⟩;intro Y U
  refine⟨fun h=>(Bool.false_ne_true (h.symm.trans (by rfl))).elim,?_⟩
  refine goB ab [6,7,8] 3 1087 1535 U (.move rfl<|.extract rfl rfl<|.extract rfl rfl .nil) fun Y U=>se 9 ?_
  refine hZ U dg 32 iA rfl fun f1 Y f2 U dh _ _=>se 11 ?_
  refine stw U dh 32 hH fun f3 di _ =>?_
  refine se 12 ?_
  refine stw U di 28 iz fun f4 dj _ =>?_
  refine wad ?_
  have dk:=dj.closeC 24 rfl
  show bh _ _
  exact aw _ _ ⟨y,_,_,_,_,_,_,_,_,_,_,_,_,_,_,_,hdo,hrp,U.only [0,4,7,8,11,12],dk.ren [(1,1),(2,2),(4,20),(8,24),(11,32),(12,28),(13,29),(14,30),(15,31)] (by decide)⟩
 refine hZ U aM 29 iA rfl fun f5 Y f6 U aU _ _=>⟨fun _=>(aU.to wG),?_⟩
 refine se 5 ?_
 refine ecl U Tryz.func40 rfl (qT _ x (⟨kd,vo,bl,sz,pe,place,to,at0,ix,items⟩:Cm) n (hV _ (List.mem_of_getElem? hes)) hn (show items.length≤1000000 by have:=hc.il;omega) (fun e he=>itok (hc.ib e he).2) _ _ _ _ _ _ _ _ _ _ _ _ _ _ _ _ _ (aU.into [(1,25),(2,26),(3,27),(4,22)] (by decide) rfl)) ?_
 rintro e f7 ⟨y,e9,rl,rf,rn,d5,d6,d7,d8,d9,ea,rfl,hdo,hrp,a0⟩
 have cc:=aU.back a0 [(30,1),(31,2),(32,3)] (by decide);clear a0 aU
 have dl:=cc.oz [30,31,32,1,2,20,21,23,24,28,29]
 refine⟨_,rfl,?_⟩;intro Y U
 refine goB ab [6,7,8] 3 1599 2047 U (.move rfl<|.extract rfl rfl<|.extract rfl rfl .nil) fun Y U=>se 11 ?_
 refine stw U dl 29 hH fun f8 dm _ =>?_
 refine se 12 ?_
 refine stw U dm 28 iz fun f9 dn _ =>?_
 refine wad ?_
 have dp:=dn.closeC 24 rfl
 show bh _ _
 exact aw _ _ ⟨y,_,_,_,_,_,_,_,_,_,_,_,_,_,_,_,hdo,hrp,U.only [0,4,7,8,11,12],dp.ren [(1,1),(2,2),(4,20),(8,24),(11,29),(12,28),(13,30),(14,31),(15,32)] (by decide)⟩
end
section
def CsB(cs:List Cm):Prop:=∀ c∈cs,c.pl.length≤9∧c.its.length≤8∧ItsB c.its
theorem uV{id:Int}(h:VolS n x)(hid:0≤id∧id≤2):VolS n { x with vo:=id }:=by
 obtain⟨⟨hN,hR⟩,h2⟩:=h
 obtain⟨a1,a2,a3⟩:=hN
 exact⟨⟨⟨by dsimp only;omega,by dsimp only;omega,a3⟩,hR⟩,h2⟩
end
section
def SrtV(R:List VolV):Prop:=(R.map (·.vo)).Pairwise (· < ·)
theorem SrtV.nodup{R:List VolV}(h:SrtV R):(R.map (·.vo)).Nodup:=h.imp (fun h=>by omega)
theorem qX{R:List VolV}(h:(R.map (·.vo)).Nodup){x y:VolV}(hx:x∈R)(hy:y∈R)(he:x.vo=y.vo):x=y:=by
 obtain⟨i,hi⟩:=List.getElem?_of_mem hx
 obtain⟨j,hj⟩:=List.getElem?_of_mem hy
 have h1:(R.map (·.vo))[i]? = some x.vo:=by rw[List.getElem?_map,hi];rfl
 have h2:(R.map (·.vo))[j]? = some x.vo:=by rw[List.getElem?_map,hj,he];rfl
 have:=kQ h h1 h2
 subst this
 rw[hi] at hj;injection hj
theorem kC{L R:List VolV}(hp:L.Perm R)(hs:SrtV R):j4 L=R:=by
 have hk:kc L=R.map (·.vo):=by
   refine List.Perm.eq_of_pairwise (le:=fun x y=>x≤y) (fun a b _ _ h1 h2=>by omega) ?_ (hs.imp (fun h=>by omega)) ?_
   · have:=List.pairwise_mergeSort (le:=fun x y:Int=>decide (x≤y)) (fun a b c h1 h2=>by simp at *;omega) (fun a b=>by simp;omega) (L.map (·.vo))
     exact this.imp (fun h=>of_decide_eq_true h)
   exact(List.mergeSort_perm _ _).trans (hp.map _)
 rw[j4,hk,List.map_map]
 conv=>rhs;rw[← List.map_id R]
 refine List.map_congr_left (fun y hy =>?_)
 show(L.find? (fun z=>decide (z.vo=y.vo))).getD jM=y
 cases hf:L.find? (fun z=>decide (z.vo=y.vo)) with
 | none=>exact absurd (show y.vo=y.vo from rfl) (by simpa using List.find?_eq_none.1 hf y (hp.mem_iff.2 hy))
 | some z =>
   have hz:=List.mem_of_find?_eq_some hf
   have he:z.vo=y.vo:=by simpa using List.find?_some hf
   exact qX hs.nodup (hp.mem_iff.1 hz) hy he
theorem ol{R:List VolV}(h:(R.map (·.vo)).Nodup){x y:VolV}(hj:R[j]? = some x):R.set j y=R.map (fun z=>if z.vo=x.vo then y else z):=by
 refine List.ext_getElem? (fun i =>?_)
 rw[List.getElem?_map,List.getElem?_set]
 by_cases hij:j=i
 · subst hij
   rw[if_pos rfl,hj]
   obtain⟨hlt,_⟩:=List.getElem?_eq_some_iff.1 hj
   simp [hlt]
 rw[if_neg hij]
 cases hi:R[i]? with
 | none=>rfl
 | some z =>
   show some z=some (if z.vo=x.vo then y else z)
   rw[if_neg]
   intro he
   have h1:(R.map (·.vo))[i]? = some x.vo:=by rw[List.getElem?_map,hi,← he];rfl
   have h2:(R.map (·.vo))[j]? = some x.vo:=by rw[List.getElem?_map,hj];rfl
   exact hij (kQ h h2 h1)
theorem kv  : (R++[v]).Perm (qt R v):=by
 unfold qt
 have h:R.takeWhile (fun y=>decide (y.vo<v.vo))++R.dropWhile (fun y=>decide (y.vo<v.vo))=R:=List.takeWhile_append_dropWhile
 conv=>lhs;rw[← h]
 rw[List.append_assoc,List.append_assoc]
 exact List.Perm.append_left _ List.perm_append_comm
theorem om{v:VolV}:∀ {R:List VolV},SrtV R→(¬ ∃ y∈R,y.vo=v.vo)→SrtV (qt R v)
 | [],_,_=>by simp [qt,SrtV]
 | y :: t,hs,hn=>by
   unfold SrtV at hs
   rw[List.map_cons,List.pairwise_cons] at hs
   have hy:y.vo≠v.vo:=fun e=>hn ⟨y,List.mem_cons_self,e⟩
   by_cases hlt:y.vo<v.vo
   · have ih:=om (v:=v) (R:=t) hs.2 (fun⟨z,hz,e⟩=>hn ⟨z,List.mem_cons_of_mem _ hz,e⟩)
     have e:qt (y :: t) v=y :: qt t v:=by simp [qt,List.takeWhile,List.dropWhile,hlt]
     rw[e];unfold SrtV
     rw[List.map_cons,List.pairwise_cons]
     refine⟨fun z hz =>?_,ih⟩
     obtain⟨u,hu,rfl⟩:=List.mem_map.1 hz
     have:=(kv (R:=t) (v:=v)).mem_iff.2 hu
     rcases List.mem_append.1 this with h|h
     · exact hs.1 _ (List.mem_map_of_mem h)
     simp at h;subst h;exact hlt
   have e:qt (y :: t) v=v :: y :: t:=by simp [qt,List.takeWhile,List.dropWhile,hlt]
   rw[e];unfold SrtV
   rw[List.map_cons,List.pairwise_cons]
   refine⟨fun z hz =>?_,by rw[List.map_cons,List.pairwise_cons];exact hs⟩
   rw[List.map_cons] at hz
   rcases List.mem_cons.1 hz with rfl|hz
   · omega
   have:=hs.1 z hz;omega
theorem o8{L R:List VolV}(c:Cm)(hp:L.Perm R)(hs:SrtV R):(kk L c).1.Perm (kl R c).1∧SrtV (kl R c).1:=by
 have hnL:(L.map (·.vo)).Nodup:=(hp.map (·.vo)).nodup_iff.2 hs.nodup
 have hex:(∃ y∈L,y.vo=c.vo)↔∃ y∈R,y.vo=c.vo:=⟨fun⟨y,h,e⟩=>⟨y,hp.mem_iff.1 h,e⟩,fun⟨y,h,e⟩=>⟨y,hp.mem_iff.2 h,e⟩⟩
 by_cases hk:c.kd=1
 · by_cases he:∃ y∈R,y.vo=c.vo
   · rw[k9 hk he,kk,if_pos hk,if_pos (hex.2 he)];exact⟨hp,hs⟩
   by_cases hN:iQ c.vo c.bl c.sz c.pe c.to c.pl
   · rw[kk,kl,if_pos hk,if_pos hk,if_neg (fun h=>he (hex.1 h)),if_neg he,if_pos hN,if_pos hN]
     exact⟨(hp.append_right _).trans kv,om hs he⟩
   rw[ku hk he hN,kk,if_pos hk,if_neg (fun h=>he (hex.1 h)),if_neg hN];exact⟨hp,hs⟩
 by_cases he:∃ y∈R,y.vo=c.vo
 · obtain⟨x,hxR,hxv⟩:=he
   obtain⟨j,hj⟩:=List.getElem?_of_mem hxR
   obtain⟨i,hi⟩:=List.getElem?_of_mem (hp.mem_iff.2 hxR)
   obtain⟨y,e9,hd⟩:∃ y e9,doV x c=(y,e9):=⟨_,_,rfl⟩
   obtain⟨rl,rf,rn,hr⟩:∃ rl rf rn,nu y e9=(rl,rf,rn):=⟨_,_,_,rfl⟩
   have h1:=la hk hs.nodup hj hxv hd hr
   have h2:(kk L c).1=L.set i y:=by
     have h3:(kk L c).1=(kl L c).1:=by rw[kk,kl,if_neg hk,if_neg hk];cases List.findIdx? (fun y=>decide (y.vo=c.vo)) L <;> rfl
     rw[h3,la hk hnL hi hxv hd hr]
   have hv:y.vo=x.vo:=o9 hd
   rw[h1,h2]
   show(L.set i y).Perm (R.set j y)∧SrtV (R.set j y)
   rw[ol hnL hi,ol hs.nodup hj]
   refine⟨hp.map _,?_⟩
   unfold SrtV
   rw[List.map_map,show((fun z:VolV=>z.vo) ∘ fun z=>if z.vo=x.vo then y else z)=fun z=>z.vo from funext (fun z=>by
     show(if z.vo=x.vo then y else z).vo=z.vo
     split
     · rename_i h;rw[hv,h]
     rfl)]
   exact hs
 have hnL':¬ ∃ y∈L,y.vo=c.vo:=fun h=>he (hex.1 h)
 have h3:(kk L c).1=(kl L c).1:=by rw[kk,kl,if_neg hk,if_neg hk];cases List.findIdx? (fun y=>decide (y.vo=c.vo)) L <;> rfl
 rw[h3,km hk he,km hk hnL'];exact⟨hp,hs⟩
open Classical in
noncomputable def rrL(cs:List Cm):List VolV:=cs.foldl (fun L c=>if CmdR c then (kl L c).1 else L) []
theorem qY{R:List VolV}{c:Cm}(hs:SrtV R)(hV:∀ y∈R,VolS n y)(hb:∀ e∈c.its,BytesL e.2):(∀ y∈(kl R c).1,VolS (n+1) y)∧(kl R c).1.length≤R.length+1∧SrtV (kl R c).1:=by
 obtain⟨h1,h2⟩:=o8 c (List.Perm.refl R) hs
 obtain⟨L',e9,rl,rf,rn,h⟩:∃ L' e9 rl rf rn,kk R c=(L',e9,rl,rf,rn):=⟨_,_,_,_,_,rfl⟩
 obtain⟨h3,h4⟩:=xh h hV hb
 rw[h] at h1
 exact⟨fun y hy=>h3 y (h1.mem_iff.2 hy),by rw[← h1.length_eq];exact h4,h2⟩
end
section
def VolX(x:VolV):Prop:=VolR x.vo x.bl x.sz x.pe x.to x.ne x.fl x.hi x.place x.pins x.ws
def VQ(x:VolV):Prop:=VP x∧VolX x∧WBy x.ws
theorem t5{x:VolV}(h:VolX x):∀ (k:Nat) (w:PWr),x.ws[k]? = some w→w.1=(k:Int)+1:=fun k w hw=>by
 have hk:=(List.getElem?_eq_some_iff.1 hw).1
 have h9:=(h.2.2.2.2.2.2.2.2 k hk).1
 rw[List.getD,hw] at h9;exact h9
theorem VolX.vp{x:VolV}(h:VolX x)(hp:x.pins.length≤60000)(hw:x.ws.length≤60000):VP x:=by
 obtain⟨⟨a1,a2,a3,a4,a5,a6,a7,a8,a9,a10,a11⟩,h2,h3,h4,h5,h6,h7,h8,h9⟩:=h
 have hpl:x.place.length≤256:=by
   have e:=a9.2
   have hpos:(0:Int)<x.pe:=by omega
   have h1:(x.bl+x.pe - 1) / x.pe≤x.bl:=by
     refine Int.ediv_le_of_le_mul hpos ?_
     have:0≤(x.bl - 1)*(x.pe - 1):=Int.mul_nonneg (by omega) (by omega)
     have e2:(x.bl - 1)*(x.pe - 1)=x.bl*x.pe - x.bl - x.pe+1:=by rw[Int.sub_mul,Int.mul_sub];omega
     have e3:x.pe*x.bl=x.bl*x.pe:=Int.mul_comm _ _
     omega
   omega
 refine⟨by omega,⟨hpl,fun z hz=>by have:=a9.1 z hz;omega⟩,by omega,⟨hp,fun z hz =>?_⟩,hw,fun e he =>?_⟩
 · have:=(io.1 h8).2 z hz;omega
 obtain⟨j,hj,rfl⟩:=List.getElem_of_mem he
 have h10:=(h9 j hj).2
 rw[List.getD,List.getElem?_eq_getElem hj] at h10
 simp only [Option.getD_some] at h10
 obtain⟨g1,g2,g3⟩:=h10
 refine⟨g2,fun y hy =>?_⟩
 obtain⟨i,hi,rfl⟩:=List.getElem_of_mem hy
 have h11:=g3 i hi
 rw[List.getD,List.getElem?_eq_getElem hi] at h11
 simp only [Option.getD_some] at h11
 have:=h11;omega
theorem VolS.q(h:VolS n x)(hn:n≤60000):VQ x:=⟨VolX.vp h.1 (by have:=h.2.2.1;omega) (by have:=h.2.2.2.1;omega),h.1,h.2.2.2.2⟩
theorem t6:∀ {ws:List PWr},(∀ e∈ws,e.2.length≤8∧∀ y∈e.2,(0≤y.1∧y.1≤255)∧y.2.length≤32)→WBy ws→BytesL (wsE ws)
 | [],_,_=>fun x hx=>by cases hx
 | e :: l,h,hb=>by
   have h1:=t6 (ws:=l) (fun x hx=>h x (List.mem_cons_of_mem _ hx)) (fun x hx=>hb x (List.mem_cons_of_mem _ hx))
   have h0:=h e List.mem_cons_self
   rw[show wsE (e :: l)=wE e++wsE l from List.flatMap_cons]
   refine i7 ?_ h1
   refine i7 ?_ ?_
   · have:=iS (l:=[(e.2.length:Int)]) (fun x hx=>by simp at hx;omega)
     simpa [im] using this
   exact lO (fun y hy=>⟨by have:=(h0.2 y hy).1;omega,by have:=(h0.2 y hy).2;omega,hb e List.mem_cons_self y hy⟩)
theorem vk(h:VQ x):BytesL (ja x):=by
 obtain⟨hP,hX,hW⟩:=h
 refine i7 ?_ (t6 hP.it hW)
 have h4:=hP.h4;have h3:=hP.h3;have h5:=lJ x.hi
 intro z hz
 simp only [jX,mc,List.flatten_cons,List.flatten_nil,List.append_nil,List.mem_append] at hz
 rcases hz with hz|⟨hz|hz⟩|hz|⟨hz|hz⟩|hz
 · exact iS (l:=[x.vo,x.bl,x.sz,x.pe]) (fun y hy=>by simp at hy;omega) z hz
 · exact iS (l:=[(x.place.length:Int)]) (fun y hy=>by simp at hy;have:=hP.pl.1;omega) z hz
 · exact iS (l:=x.place) (fun y hy=>by have:=hP.pl.2 y hy;omega) z hz
 · exact iS (l:=[x.to,x.ne,kS x.hi,x.fl]) (fun y hy=>by simp at hy;omega) z hz
 · exact iS (l:=[(x.pins.length:Int)]) (fun y hy=>by simp at hy;have:=hP.pn.1;omega) z hz
 · exact iS (l:=x.pins) (fun y hy=>by have:=hP.pn.2 y hy;omega) z hz
 exact iS (l:=[(x.ws.length:Int)]) (fun y hy=>by simp at hy;have:=hP.ws;omega) z hz
theorem kn{R:List VolV}(h:∀ y∈R,VQ y)(hl:R.length≤8):BytesL (iR R):=by
 refine i7 (iS (l:=[(R.length:Int)]) (fun y hy=>by simp at hy;omega)) (fun z hz =>?_)
 obtain⟨y,hy,hzy⟩:=List.mem_flatMap.1 hz
 exact vk (h y hy) z hzy
theorem jF{R:List VolV}:iR R=enc (R.length:Int)++R.flatMap ja:=by simp [iR,im]
theorem lP{R:List VolV}(h:R[k]? = some y):(R.drop k).flatMap ja=ja y++(R.drop (k+1)).flatMap ja:=by
 obtain⟨hk,e⟩:=List.getElem?_eq_some_iff.1 h
 rw[List.drop_eq_getElem_cons hk,e,List.flatMap_cons]
theorem vl{R:List VolV}(hS:SrtV R){y:VolV}(h:R[k]? = some y):∀ z∈R.take k,z.vo≠y.vo:=fun z hz=>by
 obtain⟨j,hj⟩:=List.getElem?_of_mem hz
 have hjk:j<k:=by have:=(List.getElem?_eq_some_iff.1 hj).1;rw[List.length_take] at this;omega
 rw[List.getElem?_take,if_pos hjk] at hj
 obtain⟨hk,e1⟩:=List.getElem?_eq_some_iff.1 h
 obtain⟨hj9,e2⟩:=List.getElem?_eq_some_iff.1 hj
 have h9:=List.pairwise_iff_getElem.1 hS j k (by rw[List.length_map];exact hj9) (by rw[List.length_map];exact hk) hjk
 rw[List.getElem_map,List.getElem_map,e1,e2] at h9
 omega
theorem po{L:List VolV}{y:VolV}:uL (L.map iU) (.int .i64 y.vo) none=(L++[y]).map iU:=by simp [uL,iU]
theorem pr{L:List VolV}{y:VolV}:pY (L.map ij) [.v (.int .i64 y.vo),.v (.int .i64 y.bl),.v (.int .i64 y.sz),.v (.int .i64 y.pe),.ns .i64 y.place,.v (.int .i64 y.to),.v (.int .i64 y.ne),.v (.bool y.hi),.v (.int .i64 y.fl),.ns .i64 y.pins,.l 2 (y.ws.map wrD)] none=(L++[y]).map ij:=by simp [pY,ij]
theorem xz(X B)(b:List Int)(x:VolV)(T p)(c:Nat)(w0)(hP:VP x)(hSq:∀ (k:Nat) (w:PWr),x.ws[k]? = some w→w.1=(k:Int)+1)(hb:b.length≤1000000)(hbb:BytesL b)(hbe:b=ja x++T)(m0:MemOk X w0 [(1,.box B 148 [.slice p (b).length c,.int .i64 0]),(2,.dat (.slice p (b).length c) (.ns .u8 (b)))] w0) :
   Calls Tryz.prog 61 #[.pointer (some ⟨B,0,none⟩)] w0 fun e w' => ∃ (p' p1 p2 p3:Option Addr) (c' d1 d2 d3:Nat),e=.returned (.agg #[.int .i64 x.vo,.int .i64 x.bl,.int .i64 x.sz,.int .i64 x.pe,.slice p1 x.place.length d1,.int .i64 x.to,.int .i64 x.ne,.bool x.hi,.int .i64 x.fl,.slice p2 x.pins.length d2,.slice p3 (x.ws.map wrD).length d3])∧MemOk X w0 [(1,.box B 148 [.slice p' (T).length c',.int .i64 0]),(2,.dat (.slice p' (T).length c') (.ns .u8 (T))),(3,.dat (.slice p1 x.place.length d1) (.ns .i64 x.place)),(4,.dat (.slice p2 x.pins.length d2) (.ns .i64 x.pins)),(5,.dat (.slice p3 (x.ws.map wrD).length d3) (.l 2 (x.ws.map wrD)))] w':=
 (rj X B b 0 p c w0 hb hbb m0).mono fun e w' ⟨x',b',er',p',p1,p2,p3,c',d1,d2,d3,he,h1,h2,hX,hm⟩=>by
   obtain⟨rfl,rfl,rfl⟩:=hX x hP hSq T rfl hbe
   exact⟨p',p1,p2,p3,c',d1,d2,d3,he,hm⟩
theorem sY(y:VolV)(hX:VolX y)(hP:VP y)(pp pn pw:Option Addr)(cp cn9 nw cw:Nat)(w0:World)(h0:Rd (fun _=>True) w0 (.slice pp y.place.length cp) (.ns .i64 y.place))(h1:Rd (fun _=>True) w0 (.slice pn y.pins.length cn9) (.ns .i64 y.pins))(h2:Rd (fun _=>True) w0 (.slice pw nw cw) (.l 2 (y.ws.map wrD))) :
   Calls Tryz.prog 63 #[.agg #[.int .i64 y.vo,.int .i64 y.bl,.int .i64 y.sz,.int .i64 y.pe,.slice pp y.place.length cp,.int .i64 y.to,.int .i64 y.ne,.bool y.hi,.int .i64 y.fl,.slice pn y.pins.length cn9,.slice pw nw cw]] w0 fun e w'=>e=.returned (.bool true)∧Below w0.heap.size w0 w':=
 (nI y.vo y.bl y.sz y.pe y.to y.ne y.fl y.hi y.place y.pins y.ws pp pn pw cp cn9 cw nw w0 h0 h1 h2 (by have:=hP.pl.1;omega) (by have:=hP.pn.1;omega) (by have:=hP.ws;omega) (fun e he=>by have:=(hP.it e he).1;omega)).mono fun e w' ⟨b,he,hb,hw⟩=>⟨by rw[he,hb.2 hX],hw⟩
theorem t7(X B G)(L0 R:List VolV)(hS:SrtV R)(hQ:∀ y∈R,VQ y)(hl:R.length≤8)(hb:(iR R).length≤1000000)(p)(c:Nat)(w0)(m0:MemOk X w0 [(1,.box B 87 [.map (some G)]),(2,.mp G 11 ((L0).map iU) ((L0).map ij)),(3,.dat (.slice p (iR R).length c) (.ns .u8 (iR R)))] w0) :
   Calls Tryz.prog 23 #[.pointer (some ⟨B,0,none⟩),.slice p (iR R).length c] w0 fun e w' => ∃ G2,e=.returned (.bool true)∧MemOk X w0 [(1,.box B 87 [.map (some G2)]),(2,.mp G2 11 ((R).map iU) ((R).map ij)),(3,.dat (.slice p (iR R).length c) (.ns .u8 (iR R)))] w':=by
 refine iZ Tryz.func23 rfl Tryz.ntmps23 fun Y U =>?_
 have hbb:BytesL (iR R):=kn hQ hl
 have hb0:(R.flatMap ja).length≤1000000:=xA jF hb
 have hbb0:BytesL (R.flatMap ja):=rk (a:=enc (R.length:Int)) (by rw[← jF];exact hbb)
 refine hC U (.assign rfl .nil) fun Y U=>zsr fun K0 hK0=>plz (ecl U Tryz.func9 rfl (ms _ _ (m0.into [] (by decide) rfl)) ?_)
 rintro e w2 ⟨B5,G5,rfl,hm2⟩
 have mx2:=m0.back hm2 [(51,1),(52,2)] (by decide);clear hm2 m0
 have m2:=mx2.oz [51,52,1,2,3]
 refine⟨_,rfl,?_⟩;intro Y U
 refine g9 U (.move rfl .nil) fun Y U=>plz (ecl U Tryz.func59 rfl (rm _ (iR R) _ _ _ hb (m2.into [(1,3)] (by decide) rfl)) ?_)
 rintro e w5 ⟨B6,p5,c5,rfl,hm5⟩
 have mx5:=m2.back hm5 [(53,1),(54,2),(3,3)] (by decide);clear hm5 m2
 have m5:=mx5.oz [53,54,3,1,2,51,52]
 refine⟨_,rfl,?_⟩;intro Y U
 refine gz hK0 U (.assign rfl<|.assign rfl<|.nil) fun Y U=>zsr fun K1 hK1=>g9 U (.move rfl .nil) fun Y U=>plz (ecl U Tryz.func60 rfl (vn _ _ _ 8 _ _ _ (R.length:Int) (R.flatMap ja) hb hbb jF (by omega) (by omega) (m5.into [(1,53),(2,54)] (by decide) rfl)) ?_)
 rintro e aJ ⟨aK,aL,rfl,ac⟩
 have aj:=m5.back ac [(53,1),(54,2)] (by decide);clear ac m5
 have aw:=aj.oz [53,54,1,2,3,51,52]
 refine⟨_,rfl,?_⟩;intro Y U
 refine gz hK1 U (.conv rfl jV U3 (r:=(R.length:Int)) (IntWalk.i64_in _ (by omega))<|.assign rfl<|.nil) fun Y U=>wsk fun K2 hK2 =>?_
 replace U:=U.oz [0,1,4,5,6,7]
 refine hC U (.move rfl<|.move rfl .nil) fun Y U=>wp_block<|wp_loop_ghost (fun g a w => ∃ (k:Nat) (q1:Option Addr) (d1:Nat),k≤R.length∧g=R.length - k∧((R.drop k).flatMap ja).length≤1000000∧BytesL ((R.drop k).flatMap ja)∧Has 48 [(0,.pointer (some ⟨B,0,none⟩)),(1,.slice p (iR R).length c),(5,.pointer (some ⟨B5,0,none⟩)),(6,.pointer (some ⟨B6,0,none⟩)),(15,.int .i64 (R.length:Int)),(16,.int .i64 k)] a∧MemOk X w0 [(1,.box B 87 [.map (some G)]),(2,.mp G 11 ((L0).map iU) ((L0).map ij)),(3,.dat (.slice p (iR R).length c) (.ns .u8 (iR R))),(51,.box B5 87 [.map (some G5)]),(52,.mp G5 11 ((R.take k).map iU) ((R.take k).map ij)),(53,.box B6 148 [.slice q1 (((R.drop k).flatMap ja)).length d1,.int .i64 0]),(54,.dat (.slice q1 (((R.drop k).flatMap ja)).length d1) (.ns .u8 (((R.drop k).flatMap ja))))] w) (R.length) ?_ ?_
 · exact⟨0,_,_,Nat.zero_le _,rfl,hb0,hbb0,U.only [0,1,5,6,15,16],aw.ren [(1,1),(2,2),(3,3),(51,51),(52,52),(53,53),(54,54)] (by decide)⟩
 clear U aw
 rintro g Y aM ⟨k,q1,d1,hkl,hg,hb1,hbb1,U,aa⟩
 refine hC U (.lss rfl rfl .nil) fun Y U=>wsk fun K3 hK3=>bc U 17 ?_ ?_
 ·
  intro ab U;try simp only [QQ,Qax] at ab
  have hk:k<R.length:=by omega
  obtain⟨y,hes⟩:∃ e,R[k]? = some e:=⟨_,List.getElem?_eq_getElem hk⟩
  have hyR:=List.mem_of_getElem? hes
  have hno:∀ z∈R.take k,z.vo≠y.vo:=vl hS hes
  have hb2:((R.drop (k+1)).flatMap ja).length≤1000000:=xA (lP hes) hb1
  have hbb2:BytesL ((R.drop (k+1)).flatMap ja):=rk (by rw[← lP hes];exact hbb1)
  refine wct U<|zss<|hK3 _ _<|wsk fun K4 hK4=>wp_block<|zsr fun K5 hK5=>g9 U (.move rfl .nil) fun Y U=>plz (ecl U Tryz.func61 rfl (xz _ _ _ y ((R.drop (k+1)).flatMap ja) _ _ _ (hQ y hyR).1 (t5 (hQ y hyR).2.1) hb1 hbb1 (lP hes) (aa.into [(1,53),(2,54)] (by decide) rfl)) ?_)
  rintro e aN ⟨aO,az,aA,aB,aP,aC,aD,aE,rfl,ad⟩
  have ak:=aa.back ad [(53,1),(54,2),(100,3),(101,4),(102,5)] (by decide);clear ad aa
  have aF:=ak.oz [53,54,100,101,102,1,2,3,51,52]
  refine⟨_,rfl,?_⟩;intro Y U
  refine plz<|hZ U aF 103 iA rfl fun aQ Y aR U aG _ _=>plz (stw U aG 103 hH fun aS al _ =>?_)
  refine znl<|hK5 _ _<|wsk fun K6 hK6=>zsr fun K7 hK7=>g9 U (.move rfl .nil) fun Y U=>plz (ecl U Tryz.func62 rfl (lQ _ _ _ _ _ _ _ (al.into [(1,53),(2,54)] (by decide) rfl)) ?_)
  rintro e aT ⟨rfl,ae⟩
  have ao:=al.back ae [(53,1),(54,2)] (by decide);clear ae al
  have ag:=ao.oz [53,54,1,2,3,51,52,100,101,102,103]
  refine⟨_,rfl,?_⟩;intro Y U
  refine g9 U (.neq rfl rfl<|.move rfl .nil) fun Y U=>bcF U 23 fun U=>g9 U (.loadBRZ ag (i:=103) rfl rfl U51 rfl hH (by simp) (by dsimp only [List.drop,List.take] <;> rfl) .nil) fun Y U=>stz U (ecb U Tryz.func63 rfl ag (sY y (hQ y hyR).2.1 (hQ y hyR).1 _ _ _ _ _ _ _ _ ((ag.rd (i:=100) rfl).any) ((ag.rd (i:=101) rfl).any) ((ag.rd (i:=102) rfl).any)) fun Y aU U aH =>?_)
  refine gz hK7 U (.notZ rfl<|.pickF rfl rfl<|.nil) fun Y U=>wcf U<|zss (hK6 _ _ ?_)
  replace U:=U.oz [0,1,5,6,15,16,8]
  have ap:=aH.oz [1,2,3,51,52,53,54,100,101,102,103]
  refine region_p 7 (B:=[(1,_),(2,_),(3,_),(51,_),(52,_),(53,_),(54,_),(100,_),(101,_),(102,_),(103,_)]) (ap.to kj) ap (by kernel_rfl) (fun aV aq ah =>?_);clear ap
  refine goR aq [0,1,2,3,4,5,6] [3,5,6] 7 0 127 U (ah.to kj) (.move rfl<|.nilCheck rfl<|.fa 0 rfl U87<|.lb hh 51 U85 rfl rfl rfl<|.fa 0 rfl U51<|.lb hh 103 U3 rfl rfl rfl<|.loadBR hh (i:=103) rfl rfl U51 rfl hH (by simp) (by dsimp only [List.drop,List.take] <;> rfl) .nil) fun Y U=>se 7 ?_
  refine jE (Q:=_) U ah 52 rfl rfl rfl rfl U85 (KeyT.int (q:=.i64) U3) ow ⟨_,rfl⟩ rfl rfl (.cons (.v _) (.cons (.v _) (.cons (.v _) (.cons (.v _) (.cons (ah.rd (i:=100) rfl) (.cons (.v _) (.cons (.v _) (.cons (.v _) (.cons (.v _) (.cons (ah.rd (i:=101) rfl) (.cons (ah.rd (i:=102) rfl) .nil))))))))))) none (kJ hno) fun aW ax _=>wad<|hK4 _ _ ?_
  replace U:=U.oz [0,1,5,6,15,16]
  refine wp_region_lit<|g9 U (.inc (k+1)<|.move rfl .nil) fun Y U=>wpList_nil ?_
  show ∃ n',n'<_∧_
  rw[po,pr,← jG hes] at ax
  exact⟨R.length - (k+1),by omega,k+1,_,_,by omega,rfl,hb2,hbb2,U.only [0,1,5,6,15,16],ax.ren [(1,1),(2,2),(3,3),(51,51),(52,52),(53,53),(54,54)] (by decide)⟩
 intro ab U;try simp only [QQ,Qax] at ab
 revert U
 obtain rfl:k=R.length:=by omega
 intro U
 rw[List.take_length] at aa
 refine wcf U<|wp_exit<|hK2 _ _<|wsk fun K8 hK8=>zsr fun K9 hK9=>g9 U (.move rfl .nil) fun Y U=>plz (ecl U Tryz.func22 rfl (pj _ _ _ R _ (fun y hy=>(hQ y hy).1) hl (aa.into [(1,51),(2,52)] (by decide) rfl)) ?_)
 rintro e aX ⟨aY,aZ,rfl,ai⟩
 have ar:=aa.back ai [(51,1),(52,2),(100,3)] (by decide);clear ai aa
 have au:=ar.oz [51,52,100,1,2,3,53,54]
 refine⟨_,rfl,?_⟩;intro Y U
 refine g9 U (.move rfl .nil) fun Y U=>plz<|ecb U Tryz.func64 rfl au (xB (congrArg iR (kC (List.Perm.refl R) hS)) _ _ _ _ _ ((au.rd (i:=100) rfl).any) ((au.rd (i:=3) rfl).any) (kn (fun y hy=>hQ y (by rw[← kC (List.Perm.refl R) hS];exact hy)) (by rw[kC (List.Perm.refl R) hS];exact hl))) fun Y a0 U ay=>gz hK9 U (.not rfl .nil) fun Y U=>wcf U<|zss (hK8 _ _ ?_)
 replace U:=U.oz [0,1,5,6,15,16]
 refine zsr fun a1 av=>g9 U (.move rfl<|.move rfl<|.nilCheck rfl<|.fa 0 rfl U87<|.lb ay 51 U85 rfl rfl rfl<|.nilCheck rfl<|.fa 0 rfl U87 .nil) fun Y U=>plz (st1 U ay 1 yB fun a2 aI _ =>?_)
 refine znl (av _ _ ?_)
 replace U:=U.oz [0,1,5,6,15,16]
 refine hC U (.assign rfl .nil) fun Y U=>rt1 U ?_
 exact⟨G5,rfl,aI.ren [(1,1),(2,52),(3,3)] (by decide)⟩
end
section
theorem xp(X B)(b:List Int)(er mx p)(c:Nat)(w0)(hb:b.length≤1000000)(hbb:BytesL b)(m0:MemOk X w0 [(1,.box B 148 [.slice p (b).length c,.int .i64 er]),(2,.dat (.slice p (b).length c) (.ns .u8 (b)))] w0)(hmx:0≤mx:=by decide) :
   Calls Tryz.prog 60 #[.pointer (some ⟨B,0,none⟩),.int .u64 mx] w0 fun e w' => ∃ (x:Int) (b':List Int) (er':Int) (p':Option Addr) (c':Nat),e=.returned (.int .u64 x)∧(0≤x∧x≤mx)∧RdN b er b' er'∧MemOk X w0 [(1,.box B 148 [.slice p' (b').length c',.int .i64 er']),(2,.dat (.slice p' (b').length c') (.ns .u8 (b')))] w':=
 (q6 X B b er mx p c w0 hb hbb m0).mono fun e w' ⟨p',c',he,hm⟩=>⟨_,_,_,p',c',he,oc b er mx hmx,ot b er mx hbb,hm⟩
end
section
theorem xq{xs ys:List Int}(h:xs≠ys)(p1 p2 c1 c2)(w0:World)(h1:Rd (fun _=>True) w0 (.slice p1 xs.length c1) (.ns .u8 xs))(h2:Rd (fun _=>True) w0 (.slice p2 ys.length c2) (.ns .u8 ys))(hb1:BytesL xs)(hb2:BytesL ys) :
   Calls Tryz.prog 64 #[.slice p1 xs.length c1,.slice p2 ys.length c2] w0 fun e w'=>e=.returned (.bool false)∧Below w0.heap.size w0 w':=
 (yG xs ys p1 p2 c1 c2 w0 h1 h2 hb1 hb2).mono fun e w' h9=>⟨by rw[h9.1];exact congrArg (fun b=>Ending.returned (.bool b)) (decide_eq_false h),h9.2⟩
end
end Go.Proofs.YtkehgingagggaaaGreat.K
