/- General laws of walks. -/
import Derived.Test.YtkehgingagggaaaGreatG22
import Derived.Test.YtkehgingagggaaaGreatG23
import Derived.Test.YtkehgingagggaaaGreatG21
import Derived.Test.YtkehgingagggaaaGreatG19
import Derived.Test.YtkehgingagggaaaGreatG20
import Derived.Test.YtkehgingagggaaaGreatG18
namespace Go.Proofs.YtkehgingagggaaaGreat.K
open Go.ChangeShapes Go.WideShapes Go.ChangeAt Go.RowKit
set_option linter.unusedVariables false
set_option linter.unusedSimpArgs false
set_option maxRecDepth 100000
set_option maxHeartbeats 4000000
set_option autoImplicit true
set_option relaxedAutoImplicit true
section
theorem vC:iO Tryz.prog 32 [.slice none 0 0]=true:=by kernel_rfl
theorem s7:iO Tryz.prog 115 [.slice none 0 0,.int .i64 0]=true:=by kernel_rfl
section
variable {P:Program} {n:Nat} {T:List (Nat×Value)} {a:Act} {w w0:World} {X:Cx} {M:Mm} {tt:TypeId} {pos:String} {af:Array Edge} {gd:Option (Nat×Bool)}
theorem ru(ha:Has n T a)(m:MemOk X w0 M w){td:TypeDesc}{i g l c mm:Nat}{cs:List (List Value)}(hm:lk M i=some (.rowC (.slice (some ⟨g,0,none⟩) l c) e mm rows cs))(j)(hc:cs[j]? = some vs){q:Nat}(hx:evT T x=some (.pointer (some ⟨g,0+j*mm+q,none⟩)))(hv:nT vs q=some v)(hu:P.underlying t=some td)(hr:td.isRow=false):Yl P a w ⟨d,.load t x,tt,pos,af,gd⟩ v:=by
 obtain⟨h1,h2,h3,h4,h5⟩:wH _ _ w _ e mm rows cs:=m.ok i _ hm
 have hl:l=rows.length:=by
   rcases h1.2 with ⟨e1,_⟩|⟨_,_,_,e1,_⟩
   · cases e1
   injection e1
 subst hl
 have hj:j<cs.length:=(List.getElem?_eq_some_iff.1 hc).1
 have hrg:w.rangeAt g (0+j*mm) vs:=fun q v hv=>by
   have hq:=(List.getElem?_eq_some_iff.1 hv).1
   have hf:=iX cs j q vs (fun c hc=>(h3 c hc).1) hc (by have:=(h3 vs (List.mem_of_getElem? hc)).1;omega)
   have:=h1.cellAt (j*mm+q) (by
     have hvl:=(h3 vs (List.mem_of_getElem? hc)).1
     calc j*mm+q<j*mm+mm:=by omega
       _=(j+1)*mm:=by rw[Nat.add_mul];omega
       _≤rows.length*mm:=Nat.mul_le_mul_right _ (by omega))
   rw[Nat.zero_add,this,hf,hv]
 exact kM ha hrg (q:=q) hx rfl hv hu hr
end
def OkV(y:VolV):Prop:=VP y∧∀ (k:Nat) (w:PWr),y.ws[k]? = some w→w.1=(k:Int)+1
theorem rv{A:Type}(l:List A):l=[]∨∃ a z,l=a++[z]:=by
 rcases List.eq_nil_or_concat l with h|⟨a,z,h⟩
 · exact .inl h
 exact .inr ⟨a,z,by rw[h,List.concat_eq_append]⟩
theorem vD(y):SrtV ([]++[y]):=by simp [SrtV]
theorem vE{z y:VolV}(h:SrtV (A++[z]))(hz:z.vo<y.vo):SrtV (A++[z]++[y]):=by
 unfold SrtV at *
 rw[List.map_append (l₁:=A++[z])]
 refine List.pairwise_append.2 ⟨h,by simp,fun a ha b hb =>?_⟩
 rw[List.map_append] at h ha
 simp only [List.map_cons,List.map_nil,List.mem_singleton] at hb;subst hb
 rcases List.mem_append.1 ha with h1|h1
 · have:=(List.pairwise_append.1 h).2.2 a h1 z.vo (by simp);omega
 simp only [List.map_cons,List.map_nil,List.mem_singleton] at h1;rw[h1];exact hz
theorem xK{z y:VolV}(hz:¬ z.vo<y.vo):¬ SrtV (A++[z]++[y]):=fun h=>by
 unfold SrtV at h
 rw[List.map_append (l₁:=A++[z])] at h
 exact hz ((List.pairwise_append.1 h).2.2 z.vo (by simp) y.vo (by simp))
theorem oB{R:List VolV}(h:∀ y∈R,VQ y):∀ y∈R,OkV y:=fun y hy=>⟨(h y hy).1,t5 (h y hy).2.1⟩
theorem kV{b b2:List Int}{e2 un:Int}(hx:XL ja OkV 8 b 0 un (L++[y]) b2 e2)(h:e2≠0∨¬ VolX y∨¬ SrtV (L++[y])):∀ R:List VolV,SrtV R→(∀ y∈R,VQ y)→R.length≤8→iR R≠b:=fun R hS hQ hl he=>by
 obtain⟨h1,r,h2,h3,h4⟩:=hx R hl (oB hQ) [] rfl (by rw[← he,jF,List.append_nil])
 rcases h with h|h|h
 · exact h h4
 · exact h (hQ y (by rw[h2];simp)).2.1
 refine h ?_
 unfold SrtV at *
 rw[h2,List.map_append] at hS
 exact(List.pairwise_append.1 hS).1
theorem kw{b b1:List Int}{e1:Int}(hx:∀ z:List VolV,z.length≤8→(∀ y∈z,OkV y)→XE b 0 (enc z.length++z.flatMap ja) (L=z) b1 e1)(h:e1≠0∨0<b1.length∨iR L≠b):∀ R:List VolV,SrtV R→(∀ y∈R,VQ y)→R.length≤8→iR R≠b:=fun R hS hQ hl he=>by
 obtain⟨h1,h2,h3⟩:=hx R hl (oB hQ) [] rfl (by rw[← he,jF,List.append_nil])
 rcases h with h|h|h
 · exact h h3
 · rw[h2] at h;exact absurd h (by simp)
 rw[h1] at h;exact h he
theorem pF{b b1:List Int}{e1:Int}(hx:∀ z:List VolV,z.length≤8→(∀ y∈z,OkV y)→XE b 0 (enc z.length++z.flatMap ja) (L=z) b1 e1):∀ R:List VolV,SrtV R→(∀ y∈R,VQ y)→R.length≤8→iR R=b→R=L:=fun R hS hQ hl he=>by
 obtain⟨h1,_,_⟩:=hx R hl (oB hQ) [] rfl (by rw[← he,jF,List.append_nil])
 exact h1.symm
theorem nK(vo bl sz pe to ne fl:Int)(hi)(place pins:List Int)(ws:List (Int×List (Int×List Int)))(pp pn pw:Option Addr)(cp cn9 cw:Nat)(nn)(w0:World)(h0:Rd (fun _=>True) w0 (.slice pp place.length cp) (.ns .i64 place))(h1:Rd (fun _=>True) w0 (.slice pn pins.length cn9) (.ns .i64 pins))(h2:Rd (fun _=>True) w0 (.slice pw nn cw) (.l 2 (ws.map wrD)))(hn:place.length≤1000000)(hp:pins.length≤1000000)(hl:ws.length≤1000000)(hwl:∀ e∈ws,e.2.length≤1000000) :
   Calls Tryz.prog 67 #[.agg #[.int .i64 vo,.int .i64 bl,.int .i64 sz,.int .i64 pe,.slice pp place.length cp,.int .i64 to,.int .i64 ne,.bool hi,.int .i64 fl,.slice pn pins.length cn9,.slice pw nn cw]] w0 fun e w' => ∃ b:Bool,e=.returned (.bool b)∧(b=true↔VolR vo bl sz pe to ne fl hi place pins ws)∧Below w0.heap.size w0 w':=by
 obtain rfl:nn=ws.length:=by obtain⟨pq,cq,hv,_⟩:=h2.l_shape;injection hv with _ e2 _;rw[List.length_map] at e2;exact e2
 exact pZ vo bl sz pe to ne fl hi place pins ws pp pn pw cp cn9 cw w0 h0 h1 h2 hn hp hl hwl
theorem vF(X:Cx)(B)(L0:List VolV)(pL cL)(b:List Int)(hb:b.length≤59999)(hbb:BytesL b)(p)(c:Nat)(w0:World)(m0:MemOk X w0 [(1,.box B 32 [.slice pL (L0.map ij).length cL]),(2,.dat (.slice pL (L0.map ij).length cL) (.l 11 (L0.map ij))),(3,.dat (.slice p b.length c) (.ns .u8 b))] w0) :
   Calls Tryz.prog 24 #[.pointer (some ⟨B,0,none⟩),.slice p b.length c] w0 fun e w' => ∃ (ok:Bool) (L:List VolV) (p':Option Addr) (c':Nat),e=.returned (.bool ok)∧(ok=true→SrtV L∧(∀ y∈L,VQ y)∧L.length≤8∧iR L=b∧∀ R:List VolV,SrtV R→(∀ y∈R,VQ y)→R.length≤8→iR R=b→R=L)∧(ok=false→L=L0∧∀ R:List VolV,SrtV R→(∀ y∈R,VQ y)→R.length≤8→iR R≠b)∧MemOk X w0 [(1,.box B 32 [.slice p' (L.map ij).length c']),(2,.dat (.slice p' (L.map ij).length c') (.l 11 (L.map ij))),(3,.dat (.slice p b.length c) (.ns .u8 b))] w':=by
 refine iZ Tryz.func24 rfl Tryz.ntmps24 fun Y U =>?_
 have hb1m:b.length≤1000000:=by omega
 refine hC U (.assign rfl .nil) fun Y U=>zsr fun K0 hK0=>g9 U (.move rfl<|.build rfl wZ s7 rfl (by dsimp only [iY,List.set] <;> rfl) .nil) fun Y U=>plz<|iu U m0 60 (cs:=[_,_]) rfl rfl rfl fun g6 Y w7 U m7 _ _=>gz hK0 U (.assign rfl .nil) fun Y U=>zsr fun K1 hK1=>g9 U (.build rfl sK vC rfl (by dsimp only [iY,List.set] <;> rfl) .nil) fun Y U=>plz<|iu U m7 61 (cs:=[_]) rfl rfl rfl fun cH Y cI U bK _ _=>gz hK1 U (.assign rfl .nil) fun Y U=>zsr fun K2 hK2=>g9 U (.move rfl .nil) fun Y U =>?_
 have bp:=bK.dat 62 rfl (bK.rd (i:=3) rfl)
 refine plz (ecl U Tryz.func65 rfl (iV _ _ b 0 8 _ _ _ hb1m hbb (by decide) (bp.into [(1,60),(2,62)] (by decide) rfl)) ?_)
 rintro e cJ ⟨un,bq,eq,cK,cM,rfl,hu,hxu,hqu,a4⟩
 have br:=bp.back a4 [(60,1),(62,2)] (by decide);clear a4 bp
 have bL:=br.oz [60,62,1,2,3,61]
 refine⟨_,rfl,?_⟩;intro Y U
 refine gz hK2 U (.assign rfl .nil) fun Y U=>wsk fun K3 hK3 =>?_
 replace U:=U.oz [0,1,4,5,6,7]
 refine hC U (.assign rfl .nil) fun Y U=>wp_block<|wp_loop_ghost (fun g a w => ∃ (k:Nat) (L:List VolV) (b1:List Int) (e1:Int) (B5 B6:Nat) (q1 q3:Option Addr) (d1 d3:Nat),L.length=k∧(k:Int)≤un∧g=un.toNat - k∧(∀ y∈L,VQ y)∧SrtV L∧RdN b 0 b1 e1∧XL ja OkV 8 b 0 un L b1 e1∧Has 103 [(0,.pointer (some ⟨B,0,none⟩)),(1,.slice p b.length c),(5,.pointer (some ⟨B5,0,none⟩)),(6,.pointer (some ⟨B6,0,none⟩)),(7,.int .u64 un),(8,.int .u64 (k:Int))] a∧MemOk X w0 [(1,.box B 32 [.slice pL (L0.map ij).length cL]),(2,.dat (.slice pL (L0.map ij).length cL) (.l 11 (L0.map ij))),(3,.dat (.slice p b.length c) (.ns .u8 b)),(53,.box B5 115 [.slice q1 b1.length d1,.int .i64 e1]),(54,.dat (.slice q1 b1.length d1) (.ns .u8 b1)),(51,.box B6 32 [.slice q3 (L.map ij).length d3]),(52,.row (.slice q3 (L.map ij).length d3) 51 11 (L.map ij))] w) (un.toNat) ?_ ?_
 · have mz:=bL.nilR 99 51 11
   exact⟨0,[],bq,eq,_,_,_,_,_,_,rfl,by omega,rfl,(fun _ h=>by cases h),List.Pairwise.nil,hqu,XL.start hxu,U.only [0,1,5,6,7,8],mz.ren [(1,1),(2,2),(3,3),(53,60),(54,62),(51,61),(52,99)] (by decide)⟩
 clear U bL
 rintro g Y cN ⟨k,L,b1,e1,B5,B6,q1,q3,d1,d3,hlk,hku,hg,hQ,hS,hR1,hxl,U,a3⟩
 refine wsk fun K4 hK4=>zsr fun K5 hK5=>g9 U (.move rfl<|.move rfl<|.lss rfl rfl<|.move rfl .nil) fun Y U=>bc U 21 ?_ ?_
 ·
  intro aR U;try simp only [QQ,Qax] at aR
  have hk:(k:Int)<un:=by omega
  refine gz hK5 U (.moveZ rfl<|.nilCheckZ rfl<|.faZ 1 rfl kH<|.loadB1Z a3 (i:=53) rfl rfl rfl U3 rfl<|.eqlZ rfl rfl<|.pickT rfl rfl<|.nil) fun Y U=>bc U 27 ?_ ?_
  ·
   intro aS U;try simp only [QQ,Qax] at aS
   have he0:e1=0:=by omega
   refine wct U<|zss<|hK4 _ _<|wsk fun K6 hK6=>wp_block ?_
   replace U:=U.oz [0,1,5,6,7,8]
   refine zsr fun K7 hK7=>g9 U (.move rfl .nil) fun Y U=>plz (ecl U Tryz.func66 rfl (vB _ _ b1 e1 _ _ _ (Nat.le_trans hR1.1 hb1m) hR1.2.1 (a3.into [(1,53),(2,54)] (by decide) rfl)) ?_)
   rintro e cO ⟨y,b2,e2,cP,bW,bX,bY,cQ,bZ,b0,b4,rfl,hR2,hyW,hyE,a5⟩
   have bs:=a3.back a5 [(53,1),(54,2),(100,3),(101,4),(102,5)] (by decide);clear a5 a3
   have b5:=bs.oz [53,54,100,101,102,1,2,3,51,52]
   refine⟨_,rfl,?_⟩;intro Y U
   have hxl2:XL ja OkV 8 b 0 un (L++[y]) b2 e2:=hxl.step (by omega) (fun x hx=>hyE x hx.1 hx.2)
   have hb1l:=hR1.1
   refine plz<|hZ U b5 103 iA rfl fun cR Y cS U b6 _ _=>plz (stw U b6 103 hH fun cT bt _ =>?_)
   refine znl<|hK7 _ _<|wsk fun K8 hK8=>hC U (.move rfl<|.nilCheck rfl<|.fa 0 rfl U32<|.lb bt 51 U30 rfl rfl rfl<|.len rfl U30<|.assign rfl .nil) fun Y U=>wsk fun K9 hK9 =>?_
   rcases rv L with rfl|⟨A,z,rfl⟩
   ·
    replace U:=U.oz [0,1,5,6,7,8,9,10]
    have bu:=bt.oz [1,2,3,51,52,53,54,100,101,102,103]
    refine region_p 28 (B:=[(1,_),(2,_),(3,_),(51,_),(52,_),(53,_),(54,_),(100,_),(101,_),(102,_),(103,_)]) (bu.to kj) bu (by kernel_rfl) (fun cU aq aM =>?_);clear bu
    refine goR aq [0,1,2,3,4,5] [3] 6 0 63 U (aM.to kj) (.move rfl<|.nilCheck rfl<|.fa 1 rfl kH<|.lb hh 53 U3 rfl rfl rfl<|.neq rfl rfl<|.move rfl .nil) fun Y U=>bc U 42 ?_ ?_
    ·
     intro aT U;try simp only [QQ,Qax] at aT
     have hbad:=kV hxl2 (.inl (by omega))
     refine goA aq [6,7,8,9,10,11,12,13,14,15,16,17,18,19,20,21,22,23,24,25,26,27] 22 63 268435455 U (aM.to kj) (.s<|.s<|.s<|.pickT rfl rfl<|.move rfl<|.s<|.s<|.s<|.u<|.u<|.u<|.u<|.u<|.u<|.u<|.u<|.u<|.u<|.u<|.u<|.s<|.pickT rfl rfl .nil) fun Y U=>wad<|hK9 _ _<|wct U ?_
     replace U:=U.oz [0,1,5,6,7,8,9]
     refine hC U (.assign rfl .nil) fun Y U=>rt1 U ?_
     exact⟨false,L0,_,_,rfl,(fun h=>by cases h),(fun _=>⟨rfl,hbad⟩),aM.ren [(1,1),(2,2),(3,3)] (by decide)⟩
    intro aT U;try simp only [QQ,Qax] at aT
    refine goR aq [6] [6] 1 63 127 U (aM.to kj) (.loadBR hh (i:=103) rfl rfl U51 rfl hH (by simp) (by dsimp only [List.drop,List.take] <;> rfl) .nil) fun Y U=>ig 7 rfl (by kernel_rfl) (iq U rfl rfl rfl rfl)<|fun K hK=>iw U Tryz.func67 rfl rfl rfl rfl (nK y.vo y.bl y.sz y.pe y.to y.ne y.fl y.hi y.place y.pins y.ws _ _ _ _ _ _ _ _ ((aM.rd (i:=100) rfl).any) ((aM.rd (i:=101) rfl).any) ((aM.rd (i:=102) rfl).any) (by have:=hyW.1;omega) (by have:=hyW.2.1;omega) (by have:=hyW.2.2.1;omega) hyW.2.2.2.1) ?_
    rintro e cV ⟨yr,rfl,hyr,bv⟩
    have aU:=aM.later bv
    refine⟨_,rfl,?_⟩;intro Y U
    refine hK _ _ (aU.to kj) ?_;clear hK K
    refine goA aq [8,9,10] 3 255 2047 U (aU.to kj) (.not rfl<|.pickF rfl rfl<|.move rfl .nil) fun Y U=>bc U 47 ?_ ?_
    ·
     intro aD U;try simp only [QQ,Qax] at aD
     have hyX:¬ VolX y:=fun h=>by have h9:=hyr.2 h;have h8:=aD;simp [h9] at h8
     have hbad:=kV hxl2 (.inr (.inl hyX))
     refine goA aq [11,12,13,14,15,16,17,18,19,20,21,22,23,24,25,26,27] 17 2047 268435455 U (aU.to kj) (.s<|.s<|.s<|.u<|.u<|.u<|.u<|.u<|.u<|.u<|.u<|.u<|.u<|.u<|.u<|.s<|.pickT rfl rfl .nil) fun Y U=>wad<|hK9 _ _<|wct U ?_
     replace U:=U.oz [0,1,5,6,7,8,9]
     refine hC U (.assign rfl .nil) fun Y U=>rt1 U ?_
     exact⟨false,L0,_,_,rfl,(fun h=>by cases h),(fun _=>⟨rfl,hbad⟩),aU.ren [(1,1),(2,2),(3,3)] (by decide)⟩
    intro aD U;try simp only [QQ,Qax] at aD
    have hyX:yr=true:=by have h9:=aD;first|exact h9|simpa using h9
    have hyQ:VQ y:=⟨VolX.vp (hyr.1 hyX) (by have:=hyW.2.1;omega) (by have:=hyW.2.2.1;omega),hyr.1 hyX,hyW.2.2.2.2⟩
    have hS2:=vD y
    refine goA aq [11,12,13] 3 2047 16383 U (aU.to kj) (.move rfl<|.gtr rfl rfl<|.move rfl .nil) fun Y U=>bcF U 50 fun U=>goA aq [14,15,16,17,18,19,20,21,22,23,24,25,26,27] 14 16383 268435455 U (aU.to kj) (.s<|.s<|.s<|.s<|.s<|.s<|.s<|.s<|.s<|.s<|.s<|.s<|.pickF rfl rfl<|.pickF rfl rfl .nil) fun Y U=>wad<|hK9 _ _<|wcf U<|zss (hK8 _ _ ?_)
    replace U:=U.oz [0,1,5,6,7,8,9]
    have aV:=aU.oz [1,2,3,51,52,53,54,100,101,102,103]
    refine region_p 7 (B:=[(1,_),(2,_),(3,_),(51,_),(52,_),(53,_),(54,_),(100,_),(101,_),(102,_),(103,_)]) (aV.to kj) aV (by kernel_rfl) (fun b7 aN aE =>?_);clear aV
    refine goR aN [0,1,2,3,4,5] [4,5] 6 0 63 U (aE.to kj) (.move rfl<|.move rfl<|.nilCheck rfl<|.fa 0 rfl U32<|.lb hh 51 U30 rfl rfl rfl<|.loadBR hh (i:=103) rfl rfl U51 rfl hH (by simp) (by dsimp only [List.drop,List.take] <;> rfl) .nil) fun Y U=>so 6 ?_
    refine iN U aE 104 (mm:=11) rfl (.cons rfl rfl (.cons (.v _) (.cons (.v _) (.cons (.v _) (.cons (.v _) (.cons (aE.rd (i:=100) rfl) (.cons (.v _) (.cons (.v _) (.cons (.v _) (.cons (.v _) (.cons (aE.rd (i:=101) rfl) (.cons (aE.rd (i:=102) rfl) .nil))))))))))) .nil) U30 jD rfl rfl rfl rfl rfl fun b8 Y b9 U a6=>⟨a6.to kj,?_⟩
    have a7:=a6.freezeR 104 rfl
    refine se 7 ?_
    refine iM U a7 52 rfl rfl rfl (a7.rd (i:=104) rfl) U30 jD rfl rfl (by decide) (by first|(simp;done)|(simp;omega)) rfl fun ca cb Y cc U bw=>goB aN [8,9] 2 255 1023 U (.nilCheck rfl<|.fa 0 rfl U32 .nil) fun Y U=>se 10 ?_
    refine st1 U bw 51 mT fun cd a8 _ =>?_
    refine wad<|hK6 _ _ ?_
    replace U:=U.oz [0,1,5,6,7,8]
    refine wp_region_lit<|g9 U (.move rfl<|.add rfl rfl (r:=((k+1:Nat):Int)) (by rw[IntWalk.u64_in _ (by omega)];omega)<|.assign rfl .nil) fun Y U=>wpList_nil ?_
    show ∃ n',n'<_∧_
    have hE:([]:List VolV).map ij++[[.v (.int .i64 y.vo),.v (.int .i64 y.bl),.v (.int .i64 y.sz),.v (.int .i64 y.pe),.ns .i64 y.place,.v (.int .i64 y.to),.v (.int .i64 y.ne),.v (.bool y.hi),.v (.int .i64 y.fl),.ns .i64 y.pins,.l 2 (y.ws.map wrD)]]=(([]:List VolV)++[y]).map ij:=by first|rfl|(rw[List.map_append (l₁:=([]:List VolV))];rfl)
    rw[hE] at a8
    exact⟨un.toNat - (k+1),by omega,k+1,_,b2,_,_,_,_,_,_,_,by rw[List.length_append,hlk];rfl,by omega,rfl,lS hQ hyQ,hS2,hR1.tr hR2,hxl2,U.only [0,1,5,6,7,8],a8.ren [(1,1),(2,2),(3,3),(53,53),(54,54),(51,51),(52,52)] (by decide)⟩
   have hlk9:A.length+1=k:=by rw[← hlk];simp
   have hlA:(((A++[z]).map ij).length:Int)=(A.length:Int)+1:=by simp
   replace U:=U.oz [0,1,5,6,7,8,9,10]
   obtain⟨bM,bN,a9,aW⟩:=bt.openC (i:=52) rfl (Nat.lt_of_le_of_lt (Nat.zero_le (A.length)) (by simp))
   revert U
   cases a9
   intro U
   obtain⟨bO,ba,bb⟩:=aW.eltC (i:=52) rfl (A.length) (r:=[.v (.int .i64 z.vo),.v (.int .i64 z.bl),.v (.int .i64 z.sz),.v (.int .i64 z.pe),.ns .i64 z.place,.v (.int .i64 z.to),.v (.int .i64 z.ne),.v (.bool z.hi),.v (.int .i64 z.fl),.ns .i64 z.pins,.l 2 (z.ws.map wrD)]) (iT (L:=A++[z]) (x:=z) (by simp))
   revert U
   rcases bb with _|⟨av,_|⟨aw,_|⟨ax,_|⟨ay,_|⟨ah,_|⟨az,_|⟨aA,_|⟨aB,_|⟨aC,_|⟨ai,_|⟨ae,_|_⟩⟩⟩⟩⟩⟩⟩⟩⟩⟩⟩
   obtain rfl:=av.v_out
   clear av
   obtain rfl:=aw.v_out
   clear aw
   obtain rfl:=ax.v_out
   clear ax
   obtain rfl:=ay.v_out
   clear ay
   obtain⟨ce,cf,bd,bP⟩:=ah.ns_shape;subst bd
   intro U
   have be:=aW.dat 104 rfl (ah.cast (fun _ h=>h));clear aW ah
   revert U
   obtain rfl:=az.v_out
   clear az
   obtain rfl:=aA.v_out
   clear aA
   obtain rfl:=aB.v_out
   clear aB
   obtain rfl:=aC.v_out
   clear aC
   obtain⟨cg,ch,bf,bQ⟩:=ai.ns_shape;subst bf
   intro U
   have bg:=be.dat 105 rfl (ai.cast (fun _ h=>(ia rfl h)));clear be ai
   revert U
   obtain⟨ci,cj,bh,bR⟩:=ae.l_shape;subst bh
   intro U
   have bx:=bg.dat 106 rfl (ae.cast (fun _ h=>(ia rfl (ia rfl h))));clear bg ae
   have aX:=bx.oz [1,2,3,51,52,53,54,100,101,102,103,104,105,106]
   refine region_p 28 (B:=[(1,_),(2,_),(3,_),(51,_),(52,_),(53,_),(54,_),(100,_),(101,_),(102,_),(103,_),(104,_),(105,_),(106,_)]) (aX.to o0) aX (by kernel_rfl) (fun ck ag aj =>?_);clear aX
   refine goR ag [0,1,2,3,4,5] [3] 6 0 63 U (aj.to o0) (.move rfl<|.nilCheck rfl<|.fa 1 rfl kH<|.lb hh 53 U3 rfl rfl rfl<|.neq rfl rfl<|.move rfl .nil) fun Y U=>bc U 42 ?_ ?_
   ·
    intro aF U;try simp only [QQ,Qax] at aF
    have hbad:=kV hxl2 (.inl (by omega))
    refine goA ag [6,7,8,9,10,11,12,13,14,15,16,17,18,19,20,21,22,23,24,25,26,27] 22 63 268435455 U (aj.to o0) (.s<|.s<|.s<|.pickT rfl rfl<|.move rfl<|.s<|.s<|.s<|.u<|.u<|.u<|.u<|.u<|.u<|.u<|.u<|.u<|.u<|.u<|.u<|.s<|.pickT rfl rfl .nil) fun Y U=>wad<|hK9 _ _<|wct U ?_
    replace U:=U.oz [0,1,5,6,7,8,9]
    refine hC U (.assign rfl .nil) fun Y U=>rt1 U ?_
    exact⟨false,L0,_,_,rfl,(fun h=>by cases h),(fun _=>⟨rfl,hbad⟩),aj.ren [(1,1),(2,2),(3,3)] (by decide)⟩
   intro aF U;try simp only [QQ,Qax] at aF
   refine goR ag [6] [6] 1 63 127 U (aj.to o0) (.loadBR hh (i:=103) rfl rfl U51 rfl hH (by simp) (by dsimp only [List.drop,List.take] <;> rfl) .nil) fun Y U=>ig 7 rfl (by kernel_rfl) (iq U rfl rfl rfl rfl)<|fun K hK=>iw U Tryz.func67 rfl rfl rfl rfl (nK y.vo y.bl y.sz y.pe y.to y.ne y.fl y.hi y.place y.pins y.ws _ _ _ _ _ _ _ _ ((aj.rd (i:=100) rfl).any) ((aj.rd (i:=101) rfl).any) ((aj.rd (i:=102) rfl).any) (by have:=hyW.1;omega) (by have:=hyW.2.1;omega) (by have:=hyW.2.2.1;omega) hyW.2.2.2.1) ?_
   rintro e cl ⟨yr,rfl,hyr,bi⟩
   have ak:=aj.later bi
   refine⟨_,rfl,?_⟩;intro Y U
   refine hK _ _ (ak.to o0) ?_;clear hK K
   refine goA ag [8,9,10] 3 255 2047 U (ak.to o0) (.not rfl<|.pickF rfl rfl<|.move rfl .nil) fun Y U=>bc U 47 ?_ ?_
   ·
    intro al U;try simp only [QQ,Qax] at al
    have hyX:¬ VolX y:=fun h=>by have h9:=hyr.2 h;have h8:=al;simp [h9] at h8
    have hbad:=kV hxl2 (.inr (.inl hyX))
    refine goA ag [11,12,13,14,15,16,17,18,19,20,21,22,23,24,25,26,27] 17 2047 268435455 U (ak.to o0) (.s<|.s<|.s<|.u<|.u<|.u<|.u<|.u<|.u<|.u<|.u<|.u<|.u<|.u<|.u<|.s<|.pickT rfl rfl .nil) fun Y U=>wad<|hK9 _ _<|wct U ?_
    replace U:=U.oz [0,1,5,6,7,8,9]
    refine hC U (.assign rfl .nil) fun Y U=>rt1 U ?_
    exact⟨false,L0,_,_,rfl,(fun h=>by cases h),(fun _=>⟨rfl,hbad⟩),ak.ren [(1,1),(2,2),(3,3)] (by decide)⟩
   intro al U;try simp only [QQ,Qax] at al
   have hyX:yr=true:=by have h9:=al;first|exact h9|simpa using h9
   refine goA ag [11,12,13] 3 2047 16383 U (ak.to o0) (.move rfl<|.gtr rfl rfl<|.move rfl .nil) fun Y U=>bc U 50 ?_ ?_
   rotate_left
   · intro hb _;exact absurd hb (by first|(simp;done)|(simp;omega)|omega)
   clear U;intro _ U
   refine goR ag [14,15,16,17,18,19,20,21,22,23,24,25,26,27] [17,22,24] 14 16383 268435455 U (ak.to o0) (.move rfl<|.nilCheck rfl<|.fa 0 rfl U32<|.lb hh 51 U30 rfl rfl rfl<|.move rfl<|.sub rfl rfl (r:=(A.length:Int)) (by rw[hlA,IntWalk.i64_in _ (by rw[List.length_append,List.length_singleton] at hlk;omega)];omega)<|.p (fun _ _ h_=>ii h_ rfl rfl U30 hH (A.length) rfl (by simp))<|.fieldAddrQ 0 rfl U51 rfl (s:=0) (by kernel_rfl) rfl<|.c (fun _ hW _ h_=>ru h_ hW (i:=52) rfl (A.length) ba (q:=0) rfl rfl U3 rfl)<|.fa 0 rfl U51<|.lb hh 103 U3 rfl rfl rfl<|.geq rfl rfl<|.pickT rfl rfl<|.pickF rfl rfl .nil) fun Y U=>wad<|hK9 _ _<|bc U 64 ?_ ?_
   ·
    intro aG U;try simp only [QQ,Qax] at aG
    have hbad:=kV hxl2 (.inr (.inr (xK (show ¬ z.vo<y.vo by omega))))
    refine wct U ?_
    replace U:=U.oz [0,1,5,6,7,8,9]
    refine hC U (.assign rfl .nil) fun Y U=>rt1 U ?_
    exact⟨false,L0,_,_,rfl,(fun h=>by cases h),(fun _=>⟨rfl,hbad⟩),ak.ren [(1,1),(2,2),(3,3)] (by decide)⟩
   intro aG U;try simp only [QQ,Qax] at aG
   have hyQ:VQ y:=⟨VolX.vp (hyr.1 hyX) (by have:=hyW.2.1;omega) (by have:=hyW.2.2.1;omega),hyr.1 hyX,hyW.2.2.2.2⟩
   have hS2:=vE hS (show z.vo<y.vo by omega)
   refine wcf U<|zss (hK8 _ _ ?_)
   replace U:=U.oz [0,1,5,6,7,8,9]
   have aY:=ak.oz [1,2,3,51,52,53,54,100,101,102,103,104,105,106]
   refine region_p 7 (B:=[(1,_),(2,_),(3,_),(51,_),(52,_),(53,_),(54,_),(100,_),(101,_),(102,_),(103,_),(104,_),(105,_),(106,_)]) (aY.to o0) aY (by kernel_rfl) (fun cm aO aH =>?_);clear aY
   refine goR aO [0,1,2,3,4,5] [4,5] 6 0 63 U (aH.to o0) (.move rfl<|.move rfl<|.nilCheck rfl<|.fa 0 rfl U32<|.lb hh 51 U30 rfl rfl rfl<|.loadBR hh (i:=103) rfl rfl U51 rfl hH (by simp) (by dsimp only [List.drop,List.take] <;> rfl) .nil) fun Y U=>so 6 ?_
   refine iN U aH 107 (mm:=11) rfl (.cons rfl rfl (.cons (.v _) (.cons (.v _) (.cons (.v _) (.cons (.v _) (.cons (aH.rd (i:=100) rfl) (.cons (.v _) (.cons (.v _) (.cons (.v _) (.cons (.v _) (.cons (aH.rd (i:=101) rfl) (.cons (aH.rd (i:=102) rfl) .nil))))))))))) .nil) U30 jD rfl rfl rfl rfl rfl fun co Y cq U bj=>⟨bj.to o0,?_⟩
   have bz:=bj.closeC 52 rfl
   have bk:=bz.freezeR 107 rfl
   refine se 7 ?_
   refine iM U bk 52 rfl rfl rfl (bk.rd (i:=107) rfl) U30 jD rfl rfl (by decide) (by first|(simp;done)|(simp;omega)) rfl fun cr ct Y cu U bA=>goB aO [8,9] 2 255 1023 U (.nilCheck rfl<|.fa 0 rfl U32 .nil) fun Y U=>se 10 ?_
   refine st1 U bA 51 mT fun cv bm _ =>?_
   refine wad<|hK6 _ _ ?_
   replace U:=U.oz [0,1,5,6,7,8]
   refine wp_region_lit<|g9 U (.move rfl<|.add rfl rfl (r:=((k+1:Nat):Int)) (by rw[IntWalk.u64_in _ (by omega)];omega)<|.assign rfl .nil) fun Y U=>wpList_nil ?_
   show ∃ n',n'<_∧_
   have hE:(A++[z]).map ij++[[.v (.int .i64 y.vo),.v (.int .i64 y.bl),.v (.int .i64 y.sz),.v (.int .i64 y.pe),.ns .i64 y.place,.v (.int .i64 y.to),.v (.int .i64 y.ne),.v (.bool y.hi),.v (.int .i64 y.fl),.ns .i64 y.pins,.l 2 (y.ws.map wrD)]]=((A++[z])++[y]).map ij:=by first|rfl|(rw[List.map_append (l₁:=(A++[z]))];rfl)
   rw[hE] at bm
   exact⟨un.toNat - (k+1),by omega,k+1,_,b2,_,_,_,_,_,_,_,by rw[List.length_append,hlk];rfl,by omega,rfl,lS hQ hyQ,hS2,hR1.tr hR2,hxl2,U.only [0,1,5,6,7,8],bm.ren [(1,1),(2,2),(3,3),(53,53),(54,54),(51,51),(52,52)] (by decide)⟩
  intro aS U;try simp only [QQ,Qax] at aS
  have hexL:¬ ((L.length:Int)<un∧e1=0):=by omega
  refine wcf U<|wp_exit<|hK3 _ _<|wsk fun cW bB=>wsk fun cX aZ =>?_
  replace U:=U.oz [0,1,5,6,7,8]
  have bC:=a3.freezeR 52 rfl
  have a0:=bC.oz [1,2,3,51,52,53,54]
  refine region_p 20 (B:=[(1,_),(2,_),(3,_),(53,_),(54,_)]) (a0.to i5l) a0 (by kernel_rfl) (fun cw ac aa =>?_);clear a0
  refine goR ac [0,1,2,3,4,5] [3] 6 0 63 U (aa.to i5l) (.move rfl<|.nilCheck rfl<|.fa 1 rfl kH<|.lb hh 53 U3 rfl rfl rfl<|.neq rfl rfl<|.move rfl .nil) fun Y U=>bc U 80 ?_ ?_
  ·
   intro aI U;try simp only [QQ,Qax] at aI
   have hbad:=kw (hxl.fin hexL) (.inl (by omega))
   refine goA ac [6,7,8,9,10,11,12,13,14,15,17,18] 12 63 458751 U (aa.to i5l) (.s<|.s<|.s<|.s<|.s<|.s<|.pickT rfl rfl<|.move rfl<|.s<|.s<|.s<|.s .nil) fun Y U=>o5 16 U rfl rfl rfl rfl rfl (aa.to i5l) fun Y U=>goA ac [19] 1 524287 1048575 U (aa.to i5l) (.s .nil) fun Y U=>se 20 ?_
   refine e_y U rfl (kF U rfl rfl) fun Y U=>wad<|aZ _ _<|wct U ?_
   replace U:=U.oz [0,1,5,6,7,8]
   refine hC U (.assign rfl .nil) fun Y U=>rt1 U ?_
   exact⟨false,L0,_,_,rfl,(fun h=>by cases h),(fun _=>⟨rfl,hbad⟩),aa.ren [(1,1),(2,2),(3,3)] (by decide)⟩
  intro aI U;try simp only [QQ,Qax] at aI
  refine goR ac [6,7,8,9,10,11,12,13] [9] 8 63 16383 U (aa.to i5l) (.move rfl<|.nilCheck rfl<|.fa 0 rfl kH<|.lb hh 53 U22 rfl rfl rfl<|.len rfl U22<|.gtr rfl rfl<|.pickF rfl rfl<|.move rfl .nil) fun Y U=>bc U 88 ?_ ?_
  ·
   intro aJ U;try simp only [QQ,Qax] at aJ
   have hbad:=kw (hxl.fin hexL) (.inr (.inl (by omega)))
   refine goA ac [14,15,17,18] 4 16383 458751 U (aa.to i5l) (.s<|.s<|.s<|.s .nil) fun Y U=>o5 16 U rfl rfl rfl rfl rfl (aa.to i5l) fun Y U=>goA ac [19] 1 524287 1048575 U (aa.to i5l) (.s .nil) fun Y U=>se 20 ?_
   refine e_y U rfl (kF U rfl rfl) fun Y U=>wad<|aZ _ _<|wct U ?_
   replace U:=U.oz [0,1,5,6,7,8]
   refine hC U (.assign rfl .nil) fun Y U=>rt1 U ?_
   exact⟨false,L0,_,_,rfl,(fun h=>by cases h),(fun _=>⟨rfl,hbad⟩),aa.ren [(1,1),(2,2),(3,3)] (by decide)⟩
  intro aJ U;try simp only [QQ,Qax] at aJ
  refine goR ac [14,17,18] [18] 3 16383 425983 U (aa.to i5l) (.move rfl<|.move rfl<|.str rfl (fun _ h_=>(h_.nums (i:=3) rfl)) U22 U5 U9 .nil) fun Y U=>ig 15 rfl (by kernel_rfl) (iq U rfl rfl rfl rfl)<|fun K hK=>iw U Tryz.func21 rfl rfl rfl rfl (oA _ _ L _ _ _ (fun y hy=>(hQ y hy).1) (by omega) (aa.into [(1,51),(2,52)] (by decide) rfl)) ?_
  rintro e cy ⟨cz,bS,cA,bT,rfl,aP⟩
  have bn:=aa.back aP [(51,1),(52,2),(100,3)] (by decide);clear aP aa
  have ar:=bn.oz [51,52,100,1,2,3,53,54]
  refine⟨_,rfl,?_⟩;intro Y U
  refine hK _ _ (ar.to i5l) ?_;clear hK K
  refine ig 16 rfl (by kernel_rfl) (iq U rfl rfl rfl rfl)<|fun K hK=>e_y U rfl (pT U rfl (ar.nums (i:=100) rfl) U22 U5 U9) fun Y U =>?_
  refine hK _ _ (ar.to i5l) ?_;clear hK K
  refine goA ac [19] 1 524287 1048575 U (ar.to i5l) (.neqS rfl rfl .nil) fun Y U=>se 20 ?_
  refine e_y U rfl (j0 U rfl rfl) fun Y U=>wad<|aZ _ _<|bc U 95 ?_ ?_
  ·
   intro ao U;try simp only [QQ,Qax] at ao
   have hbad:=kw (hxl.fin hexL) (.inr (.inr (by have h9:=ao;rw[j2 (kn hQ (by omega)) hbb] at h9;simpa using h9)))
   refine wct U ?_
   replace U:=U.oz [0,1,5,6,7,8]
   refine hC U (.assign rfl .nil) fun Y U=>rt1 U ?_
   exact⟨false,L0,_,_,rfl,(fun h=>by cases h),(fun _=>⟨rfl,hbad⟩),ar.ren [(1,1),(2,2),(3,3)] (by decide)⟩
  intro ao U;try simp only [QQ,Qax] at ao
  have hsn:iR L=b:=by have h9:=ao;rw[j2 (kn hQ (by omega)) hbb] at h9;simpa using h9
  refine wcf U<|zss (bB _ _ ?_)
  replace U:=U.oz [0,1,5,6,7,8]
  refine zsr fun cY bE=>g9 U (.move rfl<|.move rfl<|.nilCheck rfl<|.fa 0 rfl U32<|.lb ar 51 U30 rfl rfl rfl<|.nilCheck rfl<|.fa 0 rfl U32 .nil) fun Y U=>plz (st1 U ar 1 mT fun cB bF _ =>?_)
  refine znl (bE _ _ ?_)
  replace U:=U.oz [0,1,5,6,7,8]
  refine hC U (.assign rfl .nil) fun Y U=>rt1 U ?_
  exact⟨true,L,_,_,rfl,(fun _=>⟨hS,hQ,by omega,hsn,pF (hxl.fin hexL)⟩),(fun h=>by cases h),bF.ren [(1,1),(2,52),(3,3)] (by decide)⟩
 intro aR U;try simp only [QQ,Qax] at aR
 have hexL:¬ ((L.length:Int)<un∧e1=0):=by omega
 refine gz hK5 U (.sk<|.sk<|.sk<|.sk<|.sk<|.pickF rfl rfl<|.nil) fun Y U=>wcf U<|wp_exit<|hK3 _ _<|wsk fun cZ bG=>wsk fun c0 a1 =>?_
 replace U:=U.oz [0,1,5,6,7,8]
 have bH:=a3.freezeR 52 rfl
 have a2:=bH.oz [1,2,3,51,52,53,54]
 refine region_p 20 (B:=[(1,_),(2,_),(3,_),(53,_),(54,_)]) (a2.to i5l) a2 (by kernel_rfl) (fun cC ad ab =>?_);clear a2
 refine goR ad [0,1,2,3,4,5] [3] 6 0 63 U (ab.to i5l) (.move rfl<|.nilCheck rfl<|.fa 1 rfl kH<|.lb hh 53 U3 rfl rfl rfl<|.neq rfl rfl<|.move rfl .nil) fun Y U=>bc U 80 ?_ ?_
 ·
  intro aK U;try simp only [QQ,Qax] at aK
  have hbad:=kw (hxl.fin hexL) (.inl (by omega))
  refine goA ad [6,7,8,9,10,11,12,13,14,15,17,18] 12 63 458751 U (ab.to i5l) (.s<|.s<|.s<|.s<|.s<|.s<|.pickT rfl rfl<|.move rfl<|.s<|.s<|.s<|.s .nil) fun Y U=>o5 16 U rfl rfl rfl rfl rfl (ab.to i5l) fun Y U=>goA ad [19] 1 524287 1048575 U (ab.to i5l) (.s .nil) fun Y U=>se 20 ?_
  refine e_y U rfl (kF U rfl rfl) fun Y U=>wad<|a1 _ _<|wct U ?_
  replace U:=U.oz [0,1,5,6,7,8]
  refine hC U (.assign rfl .nil) fun Y U=>rt1 U ?_
  exact⟨false,L0,_,_,rfl,(fun h=>by cases h),(fun _=>⟨rfl,hbad⟩),ab.ren [(1,1),(2,2),(3,3)] (by decide)⟩
 intro aK U;try simp only [QQ,Qax] at aK
 refine goR ad [6,7,8,9,10,11,12,13] [9] 8 63 16383 U (ab.to i5l) (.move rfl<|.nilCheck rfl<|.fa 0 rfl kH<|.lb hh 53 U22 rfl rfl rfl<|.len rfl U22<|.gtr rfl rfl<|.pickF rfl rfl<|.move rfl .nil) fun Y U=>bc U 88 ?_ ?_
 ·
  intro aL U;try simp only [QQ,Qax] at aL
  have hbad:=kw (hxl.fin hexL) (.inr (.inl (by omega)))
  refine goA ad [14,15,17,18] 4 16383 458751 U (ab.to i5l) (.s<|.s<|.s<|.s .nil) fun Y U=>o5 16 U rfl rfl rfl rfl rfl (ab.to i5l) fun Y U=>goA ad [19] 1 524287 1048575 U (ab.to i5l) (.s .nil) fun Y U=>se 20 ?_
  refine e_y U rfl (kF U rfl rfl) fun Y U=>wad<|a1 _ _<|wct U ?_
  replace U:=U.oz [0,1,5,6,7,8]
  refine hC U (.assign rfl .nil) fun Y U=>rt1 U ?_
  exact⟨false,L0,_,_,rfl,(fun h=>by cases h),(fun _=>⟨rfl,hbad⟩),ab.ren [(1,1),(2,2),(3,3)] (by decide)⟩
 intro aL U;try simp only [QQ,Qax] at aL
 refine goR ad [14,17,18] [18] 3 16383 425983 U (ab.to i5l) (.move rfl<|.move rfl<|.str rfl (fun _ h_=>(h_.nums (i:=3) rfl)) U22 U5 U9 .nil) fun Y U=>ig 15 rfl (by kernel_rfl) (iq U rfl rfl rfl rfl)<|fun K hK=>iw U Tryz.func21 rfl rfl rfl rfl (oA _ _ L _ _ _ (fun y hy=>(hQ y hy).1) (by omega) (ab.into [(1,51),(2,52)] (by decide) rfl)) ?_
 rintro e cD ⟨cE,bU,cF,bV,rfl,aQ⟩
 have bo:=ab.back aQ [(51,1),(52,2),(100,3)] (by decide);clear aQ ab
 have au:=bo.oz [51,52,100,1,2,3,53,54]
 refine⟨_,rfl,?_⟩;intro Y U
 refine hK _ _ (au.to i5l) ?_;clear hK K
 refine ig 16 rfl (by kernel_rfl) (iq U rfl rfl rfl rfl)<|fun K hK=>e_y U rfl (pT U rfl (au.nums (i:=100) rfl) U22 U5 U9) fun Y U =>?_
 refine hK _ _ (au.to i5l) ?_;clear hK K
 refine goA ad [19] 1 524287 1048575 U (au.to i5l) (.neqS rfl rfl .nil) fun Y U=>se 20 ?_
 refine e_y U rfl (j0 U rfl rfl) fun Y U=>wad<|a1 _ _<|bc U 95 ?_ ?_
 ·
  intro ap U;try simp only [QQ,Qax] at ap
  have hbad:=kw (hxl.fin hexL) (.inr (.inr (by have h9:=ap;rw[j2 (kn hQ (by omega)) hbb] at h9;simpa using h9)))
  refine wct U ?_
  replace U:=U.oz [0,1,5,6,7,8]
  refine hC U (.assign rfl .nil) fun Y U=>rt1 U ?_
  exact⟨false,L0,_,_,rfl,(fun h=>by cases h),(fun _=>⟨rfl,hbad⟩),au.ren [(1,1),(2,2),(3,3)] (by decide)⟩
 intro ap U;try simp only [QQ,Qax] at ap
 have hsn:iR L=b:=by have h9:=ap;rw[j2 (kn hQ (by omega)) hbb] at h9;simpa using h9
 refine wcf U<|zss (bG _ _ ?_)
 replace U:=U.oz [0,1,5,6,7,8]
 refine zsr fun c1 bI=>g9 U (.move rfl<|.move rfl<|.nilCheck rfl<|.fa 0 rfl U32<|.lb au 51 U30 rfl rfl rfl<|.nilCheck rfl<|.fa 0 rfl U32 .nil) fun Y U=>plz (st1 U au 1 mT fun cG bJ _ =>?_)
 refine znl (bI _ _ ?_)
 replace U:=U.oz [0,1,5,6,7,8]
 refine hC U (.assign rfl .nil) fun Y U=>rt1 U ?_
 exact⟨true,L,_,_,rfl,(fun _=>⟨hS,hQ,by omega,hsn,pF (hxl.fin hexL)⟩),(fun h=>by cases h),bJ.ren [(1,1),(2,52),(3,3)] (by decide)⟩
end
section
theorem vG:iO Tryz.prog 44 [.int .i64 0,.int .i64 0,.int .i64 0,.int .i64 0,.slice none 0 0]=true:=by kernel_rfl
theorem s8(X:Cx)(B:Nat)(L:List VolV)(p:Option Addr)(c:Nat)(b:List Int)(hb:b.length≤1000000)(hbb:BytesL b)(hno:∀ x:Cm,CmdR x→(∀ e∈x.its,BytesL e.2)→cmE x≠b)(q:Option Addr)(d:Nat)(w0:World)(m0:MemOk X w0 [(1,.box B 32 [.slice p ((L).map ij).length c]),(2,.dat (.slice p ((L).map ij).length c) (.l 11 ((L).map ij))),(3,.dat (.slice q b.length d) (.ns .u8 b))] w0) :
   Calls Tryz.prog 15 #[.pointer (some ⟨B,0,none⟩),.slice q b.length d] w0 fun e w'=>e=.returned (.agg #[.int .i64 20,.int .i64 0,.int .i64 0,.int .i64 0,.slice none 0 0])∧MemOk X w0 [(1,.box B 32 [.slice p ((L).map ij).length c]),(2,.dat (.slice p ((L).map ij).length c) (.l 11 ((L).map ij))),(3,.dat (.slice q b.length d) (.ns .u8 b))] w':=by
 refine iZ Tryz.func15 rfl Tryz.ntmps15 fun Y U=>zsr fun K0 hK0=>plz<|hZ U m0 20 iL rfl fun g1 Y w2 U m2 _ _=>znl<|hK0 _ _<|zsr fun K1 hK1=>g9 U (.move rfl .nil) fun Y U=>plz (ecl U Tryz.func29 rfl (qa _ b _ _ _ hb hbb hno (m2.into [(1,3)] (by decide) rfl)) ?_)
 rintro e w5 ⟨rfl,hm5⟩
 have mx5:=m2.back hm5 [(3,1)] (by decide);clear hm5 m2
 have m5:=mx5.oz [3,1,2,20]
 refine⟨_,rfl,?_⟩;intro Y U
 refine g9 U (.move rfl<|.extract rfl rfl<|.extract rfl rfl .nil) fun Y U=>plz<|hZ U m5 21 i8 rfl fun ad Y ae U ab _ _=>plz (stw U ab 21 ip fun ag ac _ =>?_)
 refine gz hK1 U (.assign rfl .nil) fun Y U=>wsk fun K2 hK2 =>?_
 replace U:=U.oz [0,4,5,6]
 refine hC U (.move rfl<|.neq rfl rfl .nil) fun Y U=>bcT U 19 fun U=>wct U<|zsr fun K3 hK3=>g9 U (.build rfl iL vG rfl (by dsimp only [iY,List.set] <;> rfl) .nil) fun Y U=>plz (stw U ac 20 iz fun ah aa _ =>?_)
 refine znl<|hK3 _ _<|rtd (kG (fn:=Tryz.f15) U aa (i:=20) rfl rfl rfl U44 rfl iz ?_)
 exact⟨rfl,aa.only [1,2,3]⟩
end
section
def szV(y:VolV):Nat:=y.pins.length+y.ws.length
def tot(R:List VolV):Nat:=(R.map szV).sum
theorem s9{A B:List VolV}(h:A.Perm B):tot A=tot B:=by
 unfold tot
 induction h with
 | nil=>rfl
 | cons x _ ih=>simp only [List.map_cons,List.sum_cons];omega
 | swap x y l=>simp only [List.map_cons,List.sum_cons];omega
 | trans _ _ h1 h2=>omega
theorem rx:∀ {L:List VolV} {j:Nat} {x y:VolV},L[j]? = some x→szV y≤szV x+1→tot (L.set j y)≤tot L+1
 | [],j,x,y,h,_=>by simp at h
 | z :: l,0,x,y,h,hy=>by
   simp at h;subst h
   simp only [tot,List.set_cons_zero,List.map_cons,List.sum_cons];omega
 | z :: l,j+1,x,y,h,hy=>by
   have h1:=rx (L:=l) (j:=j) (by simpa using h) hy
   simp only [tot,List.set_cons_succ,List.map_cons,List.sum_cons] at *;omega
theorem xL{c:Cm}(hx:VolS n x):szV (doV x c).1≤szV x+1:=by
 obtain⟨h1,h2,h3,h4,h5⟩:=hx
 unfold doV szV
 by_cases k4:c.kd=4
 · rw[if_pos k4]
   cases hd:l5 x.hi x.fl c.at0 x.ws.length x.pins with
   | mk pins' e9 =>
     obtain⟨g1,g2,g3⟩:=h1.pin h2 hd
     simp only;omega
 rw[if_neg k4]
 by_cases k5:c.kd=5
 · rw[if_pos k5]
   cases hd:jm x.hi c.at0 x.pins with
   | mk pins' e9 =>
     obtain⟨g1,g2,g3⟩:=h1.unpin h2 hd
     simp only;omega
 rw[if_neg k5]
 obtain⟨ne',hi',fl',ws',e9,hd⟩:∃ a b d e f,doR x.bl x.sz x.to x.ne x.fl x.hi x.pins x.ws c.kd c.at0 c.ix c.its=(a,b,d,e,f):=⟨_,_,_,_,_,rfl⟩
 obtain⟨g1,g2,g3⟩:=h1.do h2 hd
 rw[hd]
 simp only;omega
theorem ta{c:Cm}(hV:∀ y∈R,VolS n y):tot (kl R c).1≤tot R+1:=by
 unfold kl
 split
 · split
   · simp only;omega
   split
   · simp only
     rw[← s9 (kv (R:=R))]
     simp [tot,szV,i5]
   simp only;omega
 split
 · simp only;omega
 rename_i j hf
 obtain⟨hjl,_,_⟩:=List.findIdx?_eq_some_iff_getElem.1 hf
 have hg:R.getD j jM=R[j]:=by rw[List.getD,List.getElem?_eq_getElem hjl];rfl
 simp only [hg]
 exact rx (List.getElem?_eq_getElem hjl) (xL (hV _ (List.getElem_mem hjl)))
theorem vH(h:VP x):(ja x).length≤2700+490*szV x:=by
 have h1:=ic [x.vo,x.bl,x.sz,x.pe];have h2:=ic [(x.place.length:Int)];have h3:=ic x.place;have h4:=ic [x.to,x.ne,kS x.hi,x.fl];have h5:=ic [(x.pins.length:Int)];have h6:=ic x.pins;have h7:=ic [(x.ws.length:Int)]
 have h8:=h.pl.1;have h9:=h.pn.1;have h10:=ng h.it
 unfold szV
 simp only [ja,jX,mc,List.flatten_cons,List.flatten_nil,List.length_append,List.length_cons,List.length_nil] at *
 omega
theorem vI{R:List VolV}(h:∀ y∈R,VP y):(iR R).length≤10+2700*R.length+490*tot R:=by
 have key:∀ {R:List VolV},(∀ y∈R,VP y)→(R.flatMap ja).length≤2700*R.length+490*tot R:=by
   intro R
   induction R with
   | nil=>intro _;simp
   | cons x l ih =>
     intro h
     have h1:=ih (fun y hy=>h y (List.mem_cons_of_mem _ hy));have h2:=vH (h x List.mem_cons_self)
     simp only [List.flatMap_cons,List.length_append,List.length_cons,tot,List.map_cons,List.sum_cons] at *
     omega
 have h1:=key h;have h2:=ic [(R.length:Int)]
 rw[iR,List.length_append]
 simp only [List.length_cons,List.length_nil] at h2
 omega
theorem ub:∀ (l:List Int) (a:Int),a≤8→l.Pairwise (· < ·)→(∀ x∈l,a≤x∧x≤7)→(l.length:Int)≤8 - a
 | [],a,h,_,_=>by simp;omega
 | x :: l,a,h,hp,hx=>by
   rw[List.pairwise_cons] at hp
   have h0:=hx x List.mem_cons_self
   have h1:=ub l (x+1) (by omega) hp.2 (fun y hy=>⟨by have:=hp.1 y hy;omega,(hx y (List.mem_cons_of_mem _ hy)).2⟩)
   simp only [List.length_cons];omega
theorem tc{R:List VolV}(h:SrtV R)(hv:∀ y∈R,0≤y.vo∧y.vo≤7):R.length≤8:=by
 have:=ub (R.map (fun y:VolV=>y.vo)) 0 (by decide) h (fun x hx=>by obtain⟨y,hy,rfl⟩:=List.mem_map.1 hx;exact hv y hy)
 rw[List.length_map] at this;omega
end
section
theorem vJ{L R:List VolV}(c:Cm)(hp:L.Perm R)(hs:SrtV R):(kk L c).2=(kl R c).2:=by
 have hnL:(L.map (·.vo)).Nodup:=(hp.map (·.vo)).nodup_iff.2 hs.nodup
 have hex:(∃ y∈L,y.vo=c.vo)↔∃ y∈R,y.vo=c.vo:=⟨fun⟨y,h,e⟩=>⟨y,hp.mem_iff.1 h,e⟩,fun⟨y,h,e⟩=>⟨y,hp.mem_iff.2 h,e⟩⟩
 by_cases hk:c.kd=1
 · by_cases he:∃ y∈R,y.vo=c.vo
   · rw[k9 hk he,kk,if_pos hk,if_pos (hex.2 he)]
   by_cases hN:iQ c.vo c.bl c.sz c.pe c.to c.pl
   · rw[kk,kl,if_pos hk,if_pos hk,if_neg (fun h=>he (hex.1 h)),if_neg he,if_pos hN,if_pos hN]
   rw[ku hk he hN,kk,if_pos hk,if_neg (fun h=>he (hex.1 h)),if_neg hN]
 have h3:(kk L c).2=(kl L c).2:=by rw[kk,kl,if_neg hk,if_neg hk];cases List.findIdx? (fun y=>decide (y.vo=c.vo)) L <;> rfl
 by_cases he:∃ y∈R,y.vo=c.vo
 · obtain⟨x,hxR,hxv⟩:=he
   obtain⟨j,hj⟩:=List.getElem?_of_mem hxR
   obtain⟨i,hi⟩:=List.getElem?_of_mem (hp.mem_iff.2 hxR)
   obtain⟨y,e9,hd⟩:∃ y e9,doV x c=(y,e9):=⟨_,_,rfl⟩
   obtain⟨rl,rf,rn,hr⟩:∃ rl rf rn,nu y e9=(rl,rf,rn):=⟨_,_,_,rfl⟩
   rw[h3,la hk hs.nodup hj hxv hd hr,la hk hnL hi hxv hd hr]
 have hnL':¬ ∃ y∈L,y.vo=c.vo:=fun h=>he (hex.1 h)
 rw[h3,km hk he,km hk hnL']
theorem vK{L R:List VolV}(hp:L.Perm R)(hs:SrtV R){x y:VolV}(hx:x∈L)(hy:y∈R)(h:x.vo=y.vo):x=y:=by
 obtain⟨i,hi⟩:=List.getElem?_of_mem (hp.mem_iff.1 hx)
 obtain⟨j,hj⟩:=List.getElem?_of_mem hy
 have h1:(R.map (·.vo))[i]? = some x.vo:=by rw[List.getElem?_map,hi];rfl
 have h2:(R.map (·.vo))[j]? = some x.vo:=by rw[List.getElem?_map,hj,h];rfl
 rw[kQ hs.nodup h1 h2] at hi
 exact Option.some.inj (hi.symm.trans hj)
end
section
def V1k(pe:Int)(pl:List Int):VolV:=⟨0,3,1,pe,pl,0,0,false,0,[],[(1,[(0,[120])])]⟩
def C2k:Cm:=(⟨2,0,0,0,0,[],0,0,0,[(0,[120])]⟩:Cm)
def T1k:Tl:=⟨1,C2k,0,1,0,1,0,0,[]⟩
def T2k:Tl:=⟨1,C2k,0,1,0,2,0,0,[]⟩
end
section
theorem qU(h:VolS n x)(hn:n≤800000):tZ x:=by
 have h2:=h.sm
 obtain⟨g1,g2,g3,g4,g5⟩:=h
 exact⟨by omega,by omega,by omega,fun e he=>⟨by have:=g1.its.2 e he;omega,g5 e he⟩⟩
theorem yI{f:FuncId}{aa:Array Value}{w:World}{b:Bool}(h:b=true)(hc:Calls P f aa w fun e w'=>e=.returned (.bool b)∧Below N w w'):Calls P f aa w fun e w'=>e=.returned (.bool true)∧Below N w w':=h ▸ hc
theorem callF2{w w' w0:World}(m:MemOk X w0 M w)(i j)(hi:lk M i=none)(hj:lk ((i,.dat u d) :: M) j=none)(hb:Below w.heap.size w w')(h1:Rd (New w) w' u d)(h2:Rd (New w) w' v e):MemOk X w0 ((j,.dat v e) :: (i,.dat u d) :: M) w':=
 (m.callF i hi hb h1).dat j hj (h2.cast (fun b hb=>ia rfl (m.free_out (.inr hb))))
end
section
def ti(z:List Int):Option Cm→Prop
 | some x=>CmdR x∧(∀ e∈x.its,BytesL e.2)∧cmE x=z
 | none => ∀ x:Cm,CmdR x→(∀ e∈x.its,BytesL e.2)→cmE x≠z
theorem yS(z:List Int):∃ o,ti z o:=by
 by_cases h:∃ x,CmdR x∧(∀ e∈x.its,BytesL e.2)∧cmE x=z
 · obtain⟨x,h⟩:=h;exact⟨some x,h⟩
 exact⟨none,fun x h1 h2 h3=>h ⟨x,h1,h2,h3⟩⟩
noncomputable def apM(L:List VolV):Option Cm→List VolV×Int×Int×Int×Int
 | some x=>kk L x
 | none=>(L,20,0,0,0)
noncomputable def apR(L:List VolV):Option Cm→List VolV×Int×Int×Int×Int
 | some x=>kl L x
 | none=>(L,20,0,0,0)
theorem vO{y:VolV}(h:VolS n y):0≤y.vo∧y.vo≤7:=⟨h.1.1.1,h.1.1.2.1⟩
theorem kW{R:List VolV}(h:SrtV R)(hv:∀ y∈R,VolS n y):R.length≤8:=tc h fun y hy=>vO (hv y hy)
theorem xP{z:List Int}{o:Option Cm}{L R L2 R2:List VolV}{a1 a2 a3 a4 b1 b2 b3 b4:Int}(hz:ti z o)(hp:L.Perm R)(hs:SrtV R)(hV:∀ y∈R,VolS k y)(h1:apM L o=(L2,a1,a2,a3,a4))(h2:apR R o=(R2,b1,b2,b3,b4)):(b1=a1∧b2=a2∧b3=a3∧b4=a4)∧L2.Perm R2∧SrtV R2∧(∀ y∈R2,VolS (k+1) y)∧tot R2≤tot R+1:=by
 cases o with
 | none =>
   simp only [apM,apR,Prod.mk.injEq] at h1 h2
   obtain⟨rfl,rfl,rfl,rfl,rfl⟩:=h1
   obtain⟨rfl,rfl,rfl,rfl,rfl⟩:=h2
   exact⟨⟨rfl,rfl,rfl,rfl⟩,hp,hs,fun y hy=>(hV y hy).up (by omega),by omega⟩
 | some x =>
   obtain⟨hR,hb,rfl⟩:=hz
   have q1:=vJ x hp hs;have q2:=o8 x hp hs;have q3:=qY (c:=x) hs hV hb;have q4:=ta (c:=x) hV
   rw[show kk L x=_ from h1,show kl R x=_ from h2] at q1
   rw[show kk L x=_ from h1,show kl R x=_ from h2] at q2
   rw[show kl R x=_ from h2] at q3 q4
   simp only [Prod.mk.injEq] at q1
   exact⟨⟨q1.1.symm,q1.2.1.symm,q1.2.2.1.symm,q1.2.2.2.symm⟩,q2.1,q2.2,q3.1,q4⟩
theorem vL(X B G k L)(z:List Int)(o:Option Cm)(hz:ti z o)(hl:z.length≤20000)(hb:BytesL z)(hk:k≤1000)(hV:∀ y∈L,VolS k y)(q:Option Addr)(d w0)(m0:MemOk X w0 [(1,.box B 87 [.map (some G)]),(2,.mp G 11 ((L).map iU) ((L).map ij)),(3,.dat (.slice q z.length d) (.ns .u8 z))] w0) :
   Calls Tryz.prog 14 #[.pointer (some ⟨B,0,none⟩),.slice q z.length d] w0 fun e w' => ∃ (L2:List VolV) (e9 rl rf rn:Int),e=.returned (.agg #[.int .i64 e9,.int .i64 rl,.int .i64 rf,.int .i64 rn,.slice none 0 0])∧apM L o=(L2,e9,rl,rf,rn)∧MemOk X w0 [(1,.box B 87 [.map (some G)]),(2,.mp G 11 ((L2).map iU) ((L2).map ij))] w':=by
 cases o with
 | none=>exact(ro X B G L z (by omega) hb hz q d w0 m0).mono fun e w' h=>⟨L,_,_,_,_,h.1,rfl,h.2⟩
 | some x=>obtain⟨hR,hy,rfl⟩:=hz;exact vP X B G L x hR hy k (by omega) hV q d w0 m0
theorem te(X B k L p)(c:Nat)(z:List Int)(o:Option Cm)(hz:ti z o)(hl:z.length≤20000)(hb:BytesL z)(hk:k≤1000)(hV:∀ y∈L,VolS k y)(hS:SrtV L)(q:Option Addr)(d w0)(m0:MemOk X w0 [(1,.box B 32 [.slice p ((L).map ij).length c]),(2,.dat (.slice p ((L).map ij).length c) (.l 11 ((L).map ij))),(3,.dat (.slice q z.length d) (.ns .u8 z))] w0) :
   Calls Tryz.prog 15 #[.pointer (some ⟨B,0,none⟩),.slice q z.length d] w0 fun e w' => ∃ (L2:List VolV) (e9 rl rf rn:Int) (p':Option Addr) (c':Nat),e=.returned (.agg #[.int .i64 e9,.int .i64 rl,.int .i64 rf,.int .i64 rn,.slice none 0 0])∧apR L o=(L2,e9,rl,rf,rn)∧MemOk X w0 [(1,.box B 32 [.slice p' ((L2).map ij).length c']),(2,.dat (.slice p' ((L2).map ij).length c') (.l 11 ((L2).map ij)))] w':=by
 cases o with
 | none=>exact(s8 X B L p c z (by omega) hb hz q d w0 m0).mono fun e w' h=>⟨L,_,_,_,_,p,c,h.1,rfl,h.2.only [1,2]⟩
 | some x=>obtain⟨hR,hy,rfl⟩:=hz;exact nc X B k L p c _ _ _ _ _ _ _ _ _ _ q d w0 hV (by omega) (by have:=kW hS hV;omega) hS.nodup (hR.ok hy) m0
def LdZ(z:List Int)(b:Bool)(L:List VolV):Prop:=(b=true∧SrtV L∧(∀ y∈L,VQ y)∧L.length≤8∧iR L=z)∨(b=false∧L=[]∧∀ R:List VolV,SrtV R→(∀ y∈R,VQ y)→R.length≤8→iR R≠z)
theorem ldZ(z:List Int):∃ b L,LdZ z b L:=by
 by_cases h:∃ L,SrtV L∧(∀ y∈L,VQ y)∧L.length≤8∧iR L=z
 · obtain⟨L,h⟩:=h;exact⟨true,L,.inl ⟨rfl,h⟩⟩
 exact⟨false,[],.inr ⟨rfl,rfl,fun R h1 h2 h3 h4=>h ⟨R,h1,h2,h3,h4⟩⟩⟩
theorem LdZ.srt{z:List Int}{b:Bool}{L:List VolV}(h:LdZ z b L):SrtV L∧(∀ y∈L,VQ y)∧L.length≤8:=by
 rcases h with h|h
 · exact⟨h.2.1,h.2.2.1,h.2.2.2.1⟩
 rw[h.2.1];exact⟨by simp [SrtV],(fun _ h=>by cases h),by simp⟩
theorem xR(X B G)(z:List Int)(b:Bool)(L)(h:LdZ z b L)(hl:z.length≤59999)(hb:BytesL z)(q:Option Addr)(d w0)(m0:MemOk X w0 [(1,.box B 87 [.map (some G)]),(2,.mp G 11 ((([]:List VolV)).map iU) ((([]:List VolV)).map ij)),(3,.dat (.slice q z.length d) (.ns .u8 z))] w0) :
   Calls Tryz.prog 23 #[.pointer (some ⟨B,0,none⟩),.slice q z.length d] w0 fun e w' => ∃ G2,e=.returned (.bool b)∧MemOk X w0 [(1,.box B 87 [.map (some G2)]),(2,.mp G2 11 ((L).map iU) ((L).map ij))] w':=by
 rcases h with ⟨rfl,h1,h2,h3,rfl⟩|⟨rfl,rfl,h1⟩
 · exact(t7 X B G [] L h1 h2 h3 (by omega) q d w0 m0).mono fun e w' ⟨G2,he,hm⟩=>⟨G2,he,hm.only [1,2]⟩
 exact(xI X B G [] z (by omega) hb h1 q d w0 m0).mono fun e w' h=>⟨G,h.1,h.2⟩
theorem vN(X B p)(c:Nat)(z:List Int)(b:Bool)(L)(h:LdZ z b L)(hl:z.length≤59999)(hb:BytesL z)(q:Option Addr)(d w0)(m0:MemOk X w0 [(1,.box B 32 [.slice p ((([]:List VolV)).map ij).length c]),(2,.dat (.slice p ((([]:List VolV)).map ij).length c) (.l 11 ((([]:List VolV)).map ij))),(3,.dat (.slice q z.length d) (.ns .u8 z))] w0) :
   Calls Tryz.prog 24 #[.pointer (some ⟨B,0,none⟩),.slice q z.length d] w0 fun e w' => ∃ (p':Option Addr) (c':Nat),e=.returned (.bool b)∧MemOk X w0 [(1,.box B 32 [.slice p' ((L).map ij).length c']),(2,.dat (.slice p' ((L).map ij).length c') (.l 11 ((L).map ij)))] w':=by
 refine(vF X B [] p c z hl hb q d w0 m0).mono ?_
 rintro e w' ⟨ok,L2,p',c',rfl,hy,hn,hm⟩
 have hE:ok=b∧L2=L:=by
   rcases h with ⟨rfl,h1,h2,h3,h4⟩|⟨rfl,rfl,h1⟩
   · cases ok with
     | true=>exact⟨rfl,((hy rfl).2.2.2.2 L h1 h2 h3 h4).symm⟩
     | false=>exact absurd h4 ((hn rfl).2 L h1 h2 h3)
   cases ok with
   | true=>exact absurd (hy rfl).2.2.2.1 (h1 L2 (hy rfl).1 (hy rfl).2.1 (hy rfl).2.2.1)
   | false=>exact⟨rfl,(hn rfl).1⟩
 obtain⟨rfl,rfl⟩:=hE
 exact⟨p',c',rfl,hm.only [1,2]⟩
theorem VQ.cp(h:VQ x):CpV x:=⟨by have:=h.1.pl.1;omega,by have:=h.1.pn.1;omega,by have:=h.1.ws;omega,fun e he=>⟨by have:=(h.1.it e he).1;omega,fun y hy=>by have:=((h.1.it e he).2 y hy).2;omega⟩⟩
theorem VQ.b(h:VQ x):tZ x:=⟨by have:=h.1.pl.1;omega,by have:=h.1.pn.1;omega,by have:=h.1.ws;omega,fun e he=>⟨by have:=(h.1.it e he).1;omega,h.2.2 e he⟩⟩
theorem tf{L R:List VolV}{x y:VolV}{a b:Bool}{id:Int}(hp:L.Perm R)(hs:SrtV R)(hk:k≤1000)(hV:∀ y∈R,VolS k y)(h1:a=true→x∈L∧x.vo=id)(h2:a=false→x=jM∧¬ ∃ y∈L,y.vo=id)(h3:b=true→y∈R∧y.vo=id)(h4:b=false→y=jM∧¬ ∃ y∈R,y.vo=id):y=x∧b=a∧tZ x:=by
 cases a with
 | true =>
   obtain⟨q1,q2⟩:=h1 rfl
   cases b with
   | true=>obtain⟨q3,q4⟩:=h3 rfl;exact⟨(vK hp hs q1 q3 (by rw[q2,q4])).symm,rfl,qU (hV x (hp.mem_iff.1 q1)) (by omega)⟩
   | false=>exact absurd ⟨x,hp.mem_iff.1 q1,q2⟩ (h4 rfl).2
 | false =>
   obtain⟨rfl,q2⟩:=h2 rfl
   cases b with
   | true=>obtain⟨q3,q4⟩:=h3 rfl;exact absurd ⟨y,hp.mem_iff.2 q3,q4⟩ q2
   | false=>exact⟨(h4 rfl).1,rfl,⟨by decide,by decide,by decide,fun e he=>by cases he⟩⟩
theorem vM(hk:k≤52)(hs:SrtV R)(hV:∀ y∈R,VolS k y)(ht:tot R≤k):0<(iR R).length∧(iR R).length≤50000∧BytesL (iR R):=by
 have hQ:∀ y∈R,VQ y:=fun y hy=>(hV y hy).q (by omega)
 have h8:=kW hs hV
 refine⟨?_,?_,kn hQ h8⟩
 · rw[jF,List.length_append];have:=(i1 (R.length:Int)).2;omega
 have:=vI fun y hy=>(hQ y hy).1;omega
end
section
theorem vu:iO Tryz.prog 38 [.int .i64 0,.int .i64 0,.int .i64 0,.int .i64 0,.int .i64 0,.slice none 0 0,.int .i64 0,.int .i64 0,.int .i64 0,.slice none 0 0]=true:=by kernel_rfl
theorem vv:iO Tryz.prog 44 [.int .i64 0,.int .i64 0,.int .i64 0,.int .i64 0,.slice none 0 0]=true:=by kernel_rfl
def x1(pe:Int)(pl:List Int):Cm:=⟨1,1,5,2,pe,pl,0,0,0,[]⟩
def v1(pe:Int)(pl:List Int):VolV:=i5 1 5 2 pe 0 pl
theorem sZ(w0:World) :
   Calls Tryz.prog 42 #[.int .u8 1,.int .u8 4,.int .u8 1,.int .u8 1,.int .i64 0] w0 fun e w' => ∃ (pe:Int) (pl:List Int) (p:Option Addr) (c:Nat),e=.returned (.agg #[.int .i64 1,.int .i64 1,.int .i64 5,.int .i64 2,.int .i64 pe,.slice p pl.length c,.int .i64 0,.int .i64 0,.int .i64 0,.slice none 0 0])∧iQ 1 5 2 pe 0 pl∧Rd (New w0) w' (.slice p pl.length c) (.ns .i64 pl)∧Below w0.heap.size w0 w':=by
 refine(na 1 4 1 1 0 w0 (by omega) (by omega) (by omega) (by omega)).mono ?_
 rintro e w' ⟨bl,sz,pe,pl,p,c,he,h1,h2,h3,h4,h5,h6,h7,h8⟩
 have e1:bl=5:=by rw[h1];rfl
 have e2:sz=2:=by rw[h2];rfl
 subst e1;subst e2
 exact⟨pe,pl,p,c,he,⟨by omega,by omega,by omega,by omega,by omega,by omega,h3,h4,h5,by omega,by omega⟩,h7,h8⟩
theorem yt{pe:Int}(h:iQ 1 5 2 pe 0 pl):CmdR (x1 pe pl):=by
 have hq:=VolX.vp (x:=i5 1 5 2 pe 0 pl) (VolR.new h) (Nat.zero_le _) (Nat.zero_le _)
 have h4:=hq.h4.2.2.2
 exact⟨by dsimp only [x1];omega,by dsimp only [x1];omega,⟨by dsimp only [x1];omega,by dsimp only [x1];omega,by have h5:0≤pe∧pe≤256:=h4;show 0≤pe∧pe≤1099511627776;omega,by dsimp only [x1];omega,by dsimp only [x1];omega,by dsimp only [x1];omega⟩,hq.pl.1,hq.pl.2,by simp [x1],(fun e he=>by cases he)⟩
theorem yP{pe:Int}:∀ e∈(x1 pe pl).its,BytesL e.2:=fun e he=>by cases he
theorem yQ{pe:Int}(h:iQ 1 5 2 pe 0 pl):(x1 pe pl).pl.length≤1000000:=by have:=(yt h).pl;omega
theorem zb{pe:Int}(h:iQ 1 5 2 pe 0 pl):∀ y∈[v1 pe pl],VolS 8 y:=fun y hy=>by rw[List.mem_singleton.1 hy];exact tY h
theorem zc{pe:Int}(h:iQ 1 5 2 pe 0 pl):∀ y∈[v1 pe pl],VQ y:=fun y hy=>(zb h y hy).q (by decide)
theorem vw{pe:Int}(h:iQ 1 5 2 pe 0 pl):∀ y∈[v1 pe pl],VP y:=fun y hy=>(zc h y hy).1
theorem t9{pe:Int}:j4 [v1 pe pl]=[v1 pe pl]:=kC (List.Perm.refl _) (by simp [SrtV])
theorem xD{pe:Int}(h:iQ 1 5 2 pe 0 pl):(iR [v1 pe pl]).length≤1000000:=by
 have h1:=kT (vw h _ List.mem_cons_self)
 have h2:=ic [(([v1 pe pl].length:Nat):Int)]
 rw[iR,List.length_append,List.flatMap_cons,List.flatMap_nil,List.append_nil,ja,List.length_append]
 rw[show wsE (v1 pe pl).ws=[] from rfl]
 simp only [List.length_cons,List.length_nil] at *
 omega
theorem xE{pe:Int}(h:iQ 1 5 2 pe 0 pl):kk [] (x1 pe pl)=([v1 pe pl],0,0,0,0):=by
 unfold kk
 rw[if_pos (show(x1 pe pl).kd=1 from rfl),if_neg (fun⟨y,hy,_⟩=>by cases hy),if_pos (show iQ (x1 pe pl).vo (x1 pe pl).bl (x1 pe pl).sz (x1 pe pl).pe (x1 pe pl).to (x1 pe pl).pl from h)];rfl
theorem xF{pe:Int}:kk [v1 pe pl] (x1 pe pl)=([v1 pe pl],29,0,0,0):=by
 unfold kk
 rw[if_pos (show(x1 pe pl).kd=1 from rfl),if_pos ⟨v1 pe pl,List.mem_singleton.2 rfl,rfl⟩]
theorem rq(X B G L)(x:Cm)(hR:CmdR x)(hk1:x.kd=1)(hby:∀ e∈x.its,BytesL e.2)(p)(c:Nat)(w0)(m0:MemOk X w0 [(1,.box B 87 [.map (some G)]),(2,.mp G 11 ((L).map iU) ((L).map ij)),(3,.dat (.slice p (cmE x).length c) (.ns .u8 (cmE x)))] w0) :
   Calls Tryz.prog 14 #[.pointer (some ⟨B,0,none⟩),.slice p (cmE x).length c] w0 fun e w' => ∃ (L':List VolV) (e9:Int),e=.returned (.agg #[.int .i64 e9,.int .i64 0,.int .i64 0,.int .i64 0,.slice none 0 0])∧kk L x=(L',e9,0,0,0)∧MemOk X w0 [(1,.box B 87 [.map (some G)]),(2,.mp G 11 ((L').map iU) ((L').map ij))] w':=by
 refine iZ Tryz.func14 rfl Tryz.ntmps14 fun Y U=>zsr fun K0 hK0=>plz<|hZ U m0 20 iL rfl fun g1 Y w2 U m2 _ _=>znl<|hK0 _ _<|zsr fun K1 hK1=>g9 U (.move rfl .nil) fun Y U=>plz (ecl U Tryz.func28 rfl (lR _ x hR hby _ _ _ (m2.into [(1,3)] (by decide) rfl)) ?_)
 rintro e w5 ⟨pp5,pi5,cp5,ci5,rfl,hm5⟩
 have mx5:=m2.back hm5 [(3,1),(21,2),(22,3)] (by decide);clear hm5 m2
 have m5:=mx5.oz [3,21,22,1,2,20]
 refine⟨_,rfl,?_⟩;intro Y U
 refine g9 U (.move rfl<|.extract rfl rfl<|.extract rfl rfl .nil) fun Y U=>plz<|hZ U m5 23 i8 rfl fun ah Y ai U ae _ _=>plz (stw U ae 23 ip fun aj aa _ =>?_)
 refine gz hK1 U (.assign rfl .nil) fun Y U=>wsk fun K2 hK2 =>?_
 replace U:=U.oz [0,4,5,6]
 refine hC U (.move rfl<|.neq rfl rfl .nil) fun Y U=>bcF U 13 fun U=>wcf U<|zss<|hK2 _ _<|hC U (.fa 0 rfl U38<|.lb aa 23 U3 rfl rfl rfl .nil) fun Y U=>wp_block<|hC U (.eql rfl rfl<|.assign rfl .nil) fun Y U=>bc U 21 ?_ ?_
 rotate_left
 · intro hb _;exact absurd hb (by simp [hk1])
 clear U;intro _ U
 refine wct U ?_
 replace U:=U.oz [0,4,5]
 refine zsr fun K3 hK3=>g9 U (.move rfl<|.loadBR aa (i:=23) rfl rfl U38 rfl ip (by simp) (by dsimp only [List.drop,List.take] <;> rfl) .nil) fun Y U=>plz (ecl U Tryz.func47 rfl (pv _ _ _ L x hR hk1 _ _ _ _ _ _ (aa.into [(1,1),(2,2),(3,21),(4,22)] (by decide) rfl)) ?_)
 rintro e ak ⟨L',e9,rfl,hap,ab⟩
 have ac:=aa.back ab [(1,1),(2,2)] (by decide);clear ab aa
 have ag:=ac.oz [1,2,3,20,23]
 refine⟨_,rfl,?_⟩;intro Y U
 refine g9 U (.build rfl iL vv rfl (by dsimp only [iY,List.set] <;> rfl) .nil) fun Y U=>plz (stw U ag 20 iz fun al ad _ =>?_)
 refine znl<|hK3 _ _<|rtd (kG (fn:=Tryz.f14) U ad (i:=20) rfl rfl rfl U44 rfl iz ?_)
 exact⟨_,_,rfl,hap,ad.only [1,2]⟩
theorem s3(X B G)(pe:Int)(pl)(hN:iQ 1 5 2 pe 0 pl)(p)(c:Nat)(w0)(m0:MemOk X w0 [(1,.box B 87 [.map (some G)]),(2,.mp G 11 ((([]:List VolV)).map iU) ((([]:List VolV)).map ij)),(3,.dat (.slice p (cmE (x1 pe pl)).length c) (.ns .u8 (cmE (x1 pe pl))))] w0) :
   Calls Tryz.prog 14 #[.pointer (some ⟨B,0,none⟩),.slice p (cmE (x1 pe pl)).length c] w0 fun e w'=>e=.returned (.agg #[.int .i64 0,.int .i64 0,.int .i64 0,.int .i64 0,.slice none 0 0])∧MemOk X w0 [(1,.box B 87 [.map (some G)]),(2,.mp G 11 (([v1 pe pl]).map iU) (([v1 pe pl]).map ij))] w':=
 (rq X B G [] (x1 pe pl) (yt hN) rfl yP p c w0 m0).mono fun e w' ⟨L',e9,he,ha,hm⟩=>by rw[xE hN] at ha;cases ha;exact⟨he,hm⟩
theorem s4(X B G)(pe:Int)(pl)(hN:iQ 1 5 2 pe 0 pl)(p)(c:Nat)(w0)(m0:MemOk X w0 [(1,.box B 87 [.map (some G)]),(2,.mp G 11 (([v1 pe pl]).map iU) (([v1 pe pl]).map ij)),(3,.dat (.slice p (cmE (x1 pe pl)).length c) (.ns .u8 (cmE (x1 pe pl))))] w0) :
   Calls Tryz.prog 14 #[.pointer (some ⟨B,0,none⟩),.slice p (cmE (x1 pe pl)).length c] w0 fun e w'=>e=.returned (.agg #[.int .i64 29,.int .i64 0,.int .i64 0,.int .i64 0,.slice none 0 0])∧MemOk X w0 [(1,.box B 87 [.map (some G)]),(2,.mp G 11 (([v1 pe pl]).map iU) (([v1 pe pl]).map ij))] w':=
 (rq X B G [v1 pe pl] (x1 pe pl) (yt hN) rfl yP p c w0 m0).mono fun e w' ⟨L',e9,he,ha,hm⟩=>by rw[xF] at ha;cases ha;exact⟨he,hm⟩
theorem vy(w0:World):Calls Tryz.prog 8 #[] w0 fun e w'=>e=.returned (.bool true)∧Below w0.heap.size w0 w':=by
 refine y8 Tryz.func8 rfl Tryz.ntmps8 fun Y U =>?_
 have m0:=MemOk.start (fun _=>False) w0
 refine hC U (.assign rfl .nil) fun Y U=>zsr fun K0 hK0=>plz (ecl U Tryz.func42 rfl (sZ _) ?_)
 rintro e w2 ⟨pe,pl9,p2,c2,rfl,hN,ho2,hb2⟩
 have m3:=m0.callF 20 rfl hb2 ho2
 have hR:=yt hN
 refine⟨_,rfl,?_⟩;intro Y U
 refine plz<|hZ U m3 21 i8 rfl fun g5 Y w6 U m6 _ _=>plz (stw U m6 21 ip fun w7 m7 _ =>?_)
 refine znl<|hK0 _ _<|zsr fun K1 hK1=>g9 U (.loadBR m7 (i:=21) rfl rfl U38 rfl ip (by simp) (by dsimp only [List.drop,List.take] <;> rfl) .nil) fun Y U=>plz (ecn U Tryz.func25 rfl m7 22 (mr (x1 pe pl9) hR _ _ _ _ _ _ ((m7.rd (i:=20) rfl).any) (Rd.l0 none 0 2)) fun bg bh Y bi U aP =>?_)
 have au:=aP.freezeN 22 rfl
 refine gz hK1 U (.move rfl<|.extract rfl rfl<|.extract rfl rfl<|.assign rfl<|.assign rfl<|.nil) fun Y U =>?_
 replace U:=U.oz [0,1,2,3]
 refine zsr fun K2 hK2=>g9 U (.move rfl .nil) fun Y U=>plz (ecl U Tryz.func28 rfl (lR _ (x1 pe pl9) hR yP _ _ _ (au.into [(1,22)] (by decide) rfl)) ?_)
 rintro e bj ⟨aQ,aR,aS,aT,rfl,ae⟩
 have av:=au.back ae [(22,1),(23,2),(24,3)] (by decide);clear ae au
 have aU:=av.oz [22,23,24,20,21]
 refine⟨_,rfl,?_⟩;intro Y U
 refine g9 U (.move rfl<|.extract rfl rfl<|.extract rfl rfl .nil) fun Y U=>plz<|hZ U aU 25 i8 rfl fun bk Y bm U aV _ _=>plz (stw U aV 25 ip fun bn aw _ =>?_)
 refine gz hK2 U (.assign rfl .nil) fun Y U=>zsr fun K3 hK3=>plz (ecl U Tryz.func9 rfl (ms _ _ (aw.into [] (by decide) rfl)) ?_)
 rintro e bo ⟨aW,aX,rfl,ag⟩
 have ax:=aw.back ag [(26,1),(27,2)] (by decide);clear ag aw
 have aN:=ax.oz [26,27,20,21,22,23,24,25]
 refine⟨_,rfl,?_⟩;intro Y U
 refine gz hK3 U (.assign rfl .nil) fun Y U=>wsk fun K4 hK4 =>?_
 replace U:=U.oz [0,1,2,3,4,5,6]
 refine hC U (.move rfl<|.eqlP rfl rfl U27 .nil) fun Y U=>bcF U 27 fun U=>wcf U<|zss<|hK4 _ _<|zsr fun K5 hK5=>g9 U (.move rfl<|.move rfl .nil) fun Y U =>?_
 have ay:=aN.dat 28 rfl (aN.rd (i:=22) rfl)
 refine plz (ecl U Tryz.func14 rfl (s3 _ _ _ pe pl9 hN _ _ _ (ay.into [(1,26),(2,27),(3,28)] (by decide) rfl)) ?_)
 rintro e bp ⟨rfl,ah⟩
 have az:=ay.back ah [(26,1),(27,2)] (by decide);clear ah ay
 have aO:=az.oz [26,27,20,21,22,23,24,25]
 refine⟨_,rfl,?_⟩;intro Y U
 refine g9 U (.move rfl<|.move rfl .nil) fun Y U =>?_
 have aA:=aO.dat 29 rfl (aO.rd (i:=22) rfl)
 refine plz (ecl U Tryz.func14 rfl (s4 _ _ _ pe pl9 hN _ _ _ (aA.into [(1,26),(2,27),(3,29)] (by decide) rfl)) ?_)
 rintro e bq ⟨rfl,ai⟩
 have aB:=aA.back ai [(26,1),(27,2)] (by decide);clear ai aA
 have aY:=aB.oz [26,27,20,21,22,23,24,25]
 refine⟨_,rfl,?_⟩;intro Y U
 refine g9 U (.move rfl .nil) fun Y U =>?_
 have aC:=aY.dat 30 rfl (Rd.nilN _ _ .u8 none)
 refine plz (ecl U Tryz.func14 rfl (ro _ _ _ _ [] (by decide) (fun z hz=>by cases hz) (fun x _ _=>xC x) _ _ _ (aC.into [(1,26),(2,27),(3,30)] (by decide) rfl)) ?_)
 rintro e br ⟨rfl,aj⟩
 have aD:=aC.back aj [(26,1),(27,2)] (by decide);clear aj aC
 have aZ:=aD.oz [26,27,20,21,22,23,24,25]
 refine⟨_,rfl,?_⟩;intro Y U
 refine plz<|hZ U aZ 31 iL rfl fun bs Y bt U a0 _ _=>plz<|hZ U a0 32 iL rfl fun bu Y bv U a1 _ _=>plz<|hZ U a1 33 iL rfl fun bw Y bx U a2 _ _=>plz (stw U a2 31 iz fun bz a3 _ =>?_)
 refine plz (stw U a3 32 iz fun bA a4 _ =>?_)
 refine plz (stw U a4 33 iz fun bB aE _ =>?_)
 refine znl (hK5 _ _ ?_)
 replace U:=U.oz [0,1,3,4,5,6,7,8,9]
 refine zsr fun K6 hK6=>g9 U (.move rfl .nil) fun Y U=>plz (ecl U Tryz.func18 rfl (t8 _ _ _ [v1 pe pl9] 1 _ (vw hN) (aE.into [(1,26),(2,27)] (by decide) rfl)) ?_)
 rintro e bC ⟨v,there,pv1,pv2,pv3,dv1,dv2,dv3,rfl,hth,hno,ak⟩
 have aF:=aE.back ak [(26,1),(27,2),(34,3),(35,4),(36,5)] (by decide);clear ak aE
 have a5:=aF.oz [26,27,34,35,36,20,21,22,23,24,25,31,32,33]
 refine⟨_,rfl,?_⟩;intro Y U
 revert U
 obtain rfl:true=there:=by cases there with|true=>rfl|false=>exact absurd ⟨v1 pe pl9,List.mem_singleton.2 rfl,rfl⟩ (hno rfl).2
 obtain rfl:v=v1 pe pl9:=List.mem_singleton.1 (hth rfl).1
 intro U
 refine g9 U (.move rfl<|.extract rfl rfl<|.extract rfl rfl .nil) fun Y U=>plz<|hZ U a5 37 iA rfl fun bE Y bF U a6 _ _=>plz (stw U a6 37 hH fun bG aG _ =>?_)
 refine gz hK6 U (.assign rfl .nil) fun Y U=>zsr fun K7 hK7=>plz (ecl U Tryz.func9 rfl (ms _ _ (aG.into [] (by decide) rfl)) ?_)
 rintro e bH ⟨a7,a8,rfl,al⟩
 have aH:=aG.back al [(38,1),(39,2)] (by decide);clear al aG
 have aI:=aH.oz [38,39,20,21,22,23,24,25,26,27,31,32,33,34,35,36,37]
 refine⟨_,rfl,?_⟩;intro Y U
 refine gz hK7 U (.assign rfl .nil) fun Y U =>?_
 replace U:=U.oz [0,1,3,4,5,6,7,8,9,10,11,12]
 refine zsr fun K8 hK8=>g9 U (.move rfl<|.move rfl .nil) fun Y U=>plz (ecl U Tryz.func22 rfl (pj _ _ _ [v1 pe pl9] _ (vw hN) (by simp) (aI.into [(1,26),(2,27)] (by decide) rfl)) ?_)
 rintro e bI ⟨bJ,bK,rfl,ao⟩
 have aJ:=aI.back ao [(26,1),(27,2),(40,3)] (by decide);clear ao aI
 have ar:=aJ.oz [26,27,40,20,21,22,23,24,25,31,32,33,34,35,36,37,38,39]
 refine⟨_,rfl,?_⟩;intro Y U
 rw[t9] at ar U
 refine plz (ecl U Tryz.func23 rfl (t7 _ _ _ [] [v1 pe pl9] (by simp [SrtV]) (zc hN) (by simp) (xD hN) _ _ _ (ar.into [(1,38),(2,39),(3,40)] (by decide) rfl)) ?_)
 rintro e bL ⟨G9,rfl,ap⟩
 have aK:=ar.back ap [(38,1),(39,2),(40,3)] (by decide);clear ap ar
 have ad:=aK.oz [38,39,40,20,21,22,23,24,25,26,27,31,32,33,34,35,36,37]
 refine⟨_,rfl,?_⟩;intro Y U
 refine gz hK8 U (.assign rfl .nil) fun Y U=>zsr fun K9 hK9=>g9 U (.move rfl<|.eql rfl rfl<|.move rfl .nil) fun Y U=>bcT U 48 fun U=>g9 U (.moveZ rfl<|.eqlZ rfl rfl<|.pickT rfl rfl<|.move rfl .nil) fun Y U=>bcT U 52 fun U=>g9 U (.loadBRZ ad (i:=21) rfl rfl U38 rfl ip (by simp) (by dsimp only [List.drop,List.take] <;> rfl)<|.loadBRZ ad (i:=25) rfl rfl U38 rfl ip (by simp) (by dsimp only [List.drop,List.take] <;> rfl) .nil) fun Y U=>stz U (ecb U Tryz.func30 rfl ad (yO (x1 pe pl9) (yQ hN) (by simp [x1]) _ _ _ _ _ _ _ _ _ _ _ ((ad.rd (i:=20) rfl).any) (Rd.l0 none 0 2) ((ad.rd (i:=23) rfl).any) ((ad.rd (i:=24) rfl).any)) fun Y a9 U aa =>?_)
 refine g9 U (.pickT rfl rfl<|.move rfl<|.faZ 0 rfl U44<|.loadB1Z aa (i:=31) rfl rfl rfl U42 rfl<|.eqlZ rfl rfl<|.pickT rfl rfl<|.move rfl .nil) fun Y U=>bcT U 62 fun U=>g9 U (.faZ 0 rfl U44<|.loadB1Z aa (i:=32) rfl rfl rfl U42 rfl<|.eqlZ rfl rfl<|.pickT rfl rfl<|.move rfl .nil) fun Y U=>bcT U 67 fun U=>g9 U (.faZ 0 rfl U44<|.loadB1Z aa (i:=33) rfl rfl rfl U42 rfl<|.eqlZ rfl rfl<|.pickT rfl rfl<|.move rfl .nil) fun Y U=>bcT U 72 fun U=>g9 U (.moveZ rfl<|.pickT rfl rfl<|.move rfl<|.faZ 1 rfl U51<|.loadB1Z aa (i:=37) rfl rfl rfl U3 rfl<|.faZ 2 rfl U38<|.loadB1Z aa (i:=21) rfl rfl rfl U3 rfl<|.eqlZ rfl rfl<|.pickT rfl rfl<|.move rfl .nil) fun Y U=>bc U 82 ?_ ?_
 rotate_left
 · intro hb _;exact absurd hb (by simp [v1,i5])
 clear U;intro _ U
 refine g9 U (.moveZ rfl<|.pickT rfl rfl<|.move rfl<|.moveZ rfl .nil) fun Y U=>stz U (ecl U Tryz.func17 rfl (yR _ _ _ [v1 pe pl9] _ 8 (by decide) (zb hN) (by simp) (aa.into [(1,38),(2,39)] (by decide) rfl)) ?_)
 rintro e ba ⟨bb,bd,rfl,ac⟩
 have aq:=aa.back ac [(38,1),(39,2),(41,3)] (by decide);clear ac aa
 have ab:=aq.oz [38,39,41,20,21,22,23,24,25,26,27,31,32,33,34,35,36,37,40]
 refine⟨_,rfl,?_⟩;intro Y U
 rw[t9] at ab U
 refine g9 U (.lenZ rfl U30<|.eqlZ rfl rfl<|.pickT rfl rfl<|.move rfl .nil) fun Y U=>bcT U 91 fun U=>g9 U (.loadBRZ ab (i:=21) rfl rfl U38 rfl ip (by simp) (by dsimp only [List.drop,List.take] <;> rfl) .nil) fun Y U=>stz U (ecb U Tryz.func26 rfl ab (lm (x1 pe pl9) hR _ _ _ _ _ _ ((ab.rd (i:=20) rfl).any) (Rd.l0 none 0 2)) fun Y be U aL =>?_)
 refine g9 U (.pickT rfl rfl<|.move rfl<|.buildZ rfl i8 vu rfl (by dsimp only [iY,List.set] <;> rfl) .nil) fun Y U=>stz U (ecb U Tryz.func26 rfl aL (lN ⟨0,0,0,0,0,[],0,0,0,[]⟩ (fun h=>by have:=h.kd;dsimp only at this;omega) _ _ _ _ _ _ (Rd.nilN _ _ .i64 none) (Rd.l0 none 0 2)) fun Y bf U aM =>?_)
 refine gz hK9 U (.notZ rfl<|.pickT rfl rfl<|.assign rfl<|.nil) fun Y U=>rt1 U ?_
 exact⟨rfl,aM.below⟩
end
end Go.Proofs.YtkehgingagggaaaGreat.K
