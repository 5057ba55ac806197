/- General laws of walks. -/
import Derived.Test.YtkehgingagggaaaGreatG15
namespace Go.Proofs.YtkehgingagggaaaGreat.K
open Go.ChangeShapes Go.WideShapes Go.ChangeAt Go.RowKit
set_option linter.unusedVariables false
set_option linter.unusedSimpArgs false
set_option maxRecDepth 100000
set_option maxHeartbeats 4000000
set_option autoImplicit true
set_option relaxedAutoImplicit true
section
structure Cm where
 kd:Int
 vo:Int
 bl:Int
 sz:Int
 pe:Int
 pl:List Int
 to:Int
 at0:Int
 ix:Int
 its:List (Int×List Int)
structure CmdR (x:Cm):Prop where
 kd:1≤x.kd∧x.kd≤8
 vo:0≤x.vo∧x.vo≤7
 t40:(0≤x.bl∧x.bl≤1099511627776)∧(0≤x.sz∧x.sz≤1099511627776)∧(0≤x.pe∧x.pe≤1099511627776)∧(0≤x.to∧x.to≤1099511627776)∧(0≤x.at0∧x.at0≤1099511627776)∧(0≤x.ix∧x.ix≤1099511627776)
 pl:x.pl.length≤256
 pb:∀ z∈x.pl,0≤z∧z≤7
 il:x.its.length≤8
 ib:∀ e∈x.its,(0≤e.1∧e.1≤255)∧e.2.length≤32
theorem CmdR.ok{x:Cm}(h:CmdR x)(hb:∀ e∈x.its,BytesL e.2):CmdOk x.kd x.vo x.bl x.sz x.pe x.to x.at0 x.ix x.pl x.its:=
 ⟨h.kd,h.vo,h.t40,h.pl,fun k hk=>h.pb _ (by rw[List.getD,List.getElem?_eq_getElem hk];exact List.getElem_mem hk),h.il,h.ib,hb⟩
theorem CmdOk.r{x:Cm}(h:CmdOk x.kd x.vo x.bl x.sz x.pe x.to x.at0 x.ix x.pl x.its):CmdR x:=
 ⟨h.kd,h.vo,h.t40,h.pl,fun z hz=>by obtain⟨k,hk,e⟩:=List.mem_iff_getElem.1 hz;have:=h.pb k hk;rw[List.getD,List.getElem?_eq_getElem hk,e] at this;exact this,h.il,h.ib⟩
def cmE(x:Cm):List Int:=mh x.kd x.vo x.bl x.sz x.pe x.to x.at0 x.ix x.pl x.its
def inB(mo:Int)(l:List Int):Bool:=l.all (fun z=>decide (0≤z) && decide (z≤mo))
theorem lM{mo:Int}:inB mo l=true↔∀ z∈l,0≤z∧z≤mo:=by simp [inB,List.all_eq_true]
theorem xx{mo:Int}(h:∀ z∈l,0≤z∧z≤mo):inB mo l=true:=lM.2 h
theorem vg{mo:Int}(h:inB mo l=true):∀ z∈l,0≤z∧z≤mo:=lM.1 h
theorem sU{mo a:Int}:inB mo [a]=true↔0≤a∧a≤mo:=by simp [inB]
theorem xy{mo a b c d e f:Int}:inB mo [a,b,c,d,e,f]=true↔(0≤a∧a≤mo)∧(0≤b∧b≤mo)∧(0≤c∧c≤mo)∧(0≤d∧d≤mo)∧(0≤e∧e≤mo)∧0≤f∧f≤mo:=by simp [inB]
theorem t4{mo:Int}{l:List Int}(hk:k<l.length)(h:l.getD k 0<0∨mo<l.getD k 0):inB mo l=false:=by
 cases hb:inB mo l with
 | false=>rfl
 | true =>
   have:=lM.1 hb (l.getD k 0) (by rw[List.getD,List.getElem?_eq_getElem hk];exact List.getElem_mem hk)
   omega
theorem sV{mo:Int}{l:List Int}(h:inB mo (l.take k)=true)(hk:k<l.length)(h1:0≤l.getD k 0)(h2:l.getD k 0≤mo):inB mo (l.take (k+1))=true:=by
 rw[List.getD,List.getElem?_eq_getElem hk] at h1 h2
 rw[List.take_add_one,List.getElem?_eq_getElem hk]
 refine lM.2 (fun z hz =>?_)
 rcases List.mem_append.1 hz with hz|hz
 · exact lM.1 h z hz
 simp at hz;subst hz;exact⟨h1,h2⟩
theorem vh{mo:Int}{l:List Int}(h:inB mo (l.take k)=true)(hk:l.length≤k):inB mo l=true:=by rwa [List.take_of_length_le hk] at h
theorem o7{α:Type}{l:List α}{x:α}{Q:α→Prop}(h:∀ e∈l.take k,Q e)(hx:l[k]? = some x)(hq:Q x):∀ e∈l.take (k+1),Q e:=fun e he=>by
 rw[List.take_add_one,hx] at he
 rcases List.mem_append.1 he with he|he
 · exact h e he
 simp at he;subst he;exact hq
theorem pk(xb:Int)(xd:List Int)(h:(0≤xb∧xb≤255)∧xd.length≤32):(j6 (xb,xd)).length≤60:=by
 unfold j6
 have:=(i1 xb).1
 have:=(i1 (xd.length:Int)).1
 simp only [List.length_append]
 omega
theorem sW{its:List (Int×List Int)}{x:Int×List Int}(h:its[k]? = some x):enc (its.length:Int)++ir (its.take k)++j6 x=enc (its.length:Int)++ir (its.take (k+1)):=by
 rw[List.take_add_one,h,ir,ir,List.flatMap_append,List.append_assoc];simp
theorem kU:∀ (its:List (Int×List Int)),(∀ e∈its,(0≤e.1∧e.1≤255)∧e.2.length≤32)→(ir its).length≤60*its.length
 | [],_=>by simp [ir]
 | e :: l,h=>by
   have:(j6 e).length≤60:=pk e.1 e.2 (h e List.mem_cons_self)
   have:=kU l (fun e he=>h e (List.mem_cons_of_mem _ he))
   simp only [ir,List.flatMap_cons,List.length_append,List.length_cons] at *
   omega
theorem ox(its:List (Int×List Int))(k)(h:∀ e∈its,(0≤e.1∧e.1≤255)∧e.2.length≤32):(enc (its.length:Int)++ir (its.take k)).length≤60*its.length+10:=by
 have h1:=kU (its.take k) (fun e he=>h e (List.mem_of_mem_take he))
 have:=(i1 (its.length:Int)).1
 rw[List.length_take] at h1
 simp only [List.length_append]
 omega
theorem sX(x:Cm):[im [x.kd,x.vo,x.bl,x.sz,x.pe,x.to,x.at0,x.ix],im [(x.pl.length:Int)]++im x.pl,enc (x.its.length:Int)++ir x.its].flatten=cmE x:=by
 simp [cmE,mh,im]
theorem vi{x:Cm}(h:CmdR x):i4 [im [x.kd,x.vo,x.bl,x.sz,x.pe,x.to,x.at0,x.ix],im [(x.pl.length:Int)]++im x.pl,enc (x.its.length:Int)++ir x.its]≤1000000:=by
 have h1:=ic [x.kd,x.vo,x.bl,x.sz,x.pe,x.to,x.at0,x.ix]
 have h2:=ic [(x.pl.length:Int)]
 have h3:=ic x.pl
 have h4:=kU x.its h.ib
 have h5:=(i1 (x.its.length:Int)).1
 have:=h.pl;have:=h.il
 simp only [i4,List.flatten_cons,List.flatten_nil,List.length_append,List.length_nil,List.length_cons] at *
 omega
theorem lx(mo)(l:List Int)(p)(c:Nat)(w0:World)(hl:l.length≤1000000)(h0:Rd (fun _=>True) w0 (.slice p l.length c) (.ns .i64 l)) :
   Calls Tryz.prog 71 #[.int .i64 mo,.slice p l.length c] w0 fun e w'=>e=.returned (.bool (inB mo l))∧Below w0.heap.size w0 w':=by
 refine iZ Tryz.func71 rfl Tryz.ntmps71 fun Y U =>?_
 have m0:=MemOk.start (fun _=>False) w0
 refine hC U (.assign rfl .nil) fun Y U=>wsk fun K0 hK0=>hC U (.move rfl<|.len rfl U35<|.move rfl .nil) fun Y U=>wp_block<|wp_loop_ghost (fun g a w => ∃ k:Nat,k≤l.length∧inB mo (l.take k)=true∧g=l.length - k∧Has 21 [(0,.int .i64 mo),(1,.slice p l.length c),(7,.slice p l.length c),(8,.int .i64 l.length),(9,.int .i64 k)] a∧MemOk (cn w0) w0 [] w) (l.length) ?_ ?_
 · exact⟨0,Nat.zero_le _,rfl,rfl,U.only [0,1,7,8,9],m0.only []⟩
 clear U m0
 rintro g Y w5 ⟨k,hkl,hin,hg,U,m5⟩
 refine hC U (.lss rfl rfl .nil) fun Y U=>wsk fun K1 hK1=>bc U 10 ?_ ?_
 ·
  intro hb7 U;try simp only [QQ,Qax] at hb7
  have hk:k<l.length:=by omega
  refine wct U<|zss<|hK1 _ _<|wsk fun K2 hK2=>wp_block<|zsr fun K3 hK3 =>?_
  obtain⟨gx9,ox9,hp9,hl9,hrg9⟩:=h0.extN (k) hk
  revert U
  cases hp9
  intro U
  refine gz hK3 U (.c rfl (fun _ h_=>ii h_ rfl rfl U35 iG (k) rfl hk)<|.loadAt1 (hrg9 m5 rfl) (q:=0) rfl rfl rfl U3 rfl<|.assign rfl<|.nil) fun Y U=>zsr fun K4 hK4=>g9 U (.move rfl<|.lss rfl rfl<|.move rfl .nil) fun Y U=>bc U 15 ?_ ?_
  ·
   intro aa U;try simp only [QQ,Qax] at aa
   have hR:inB mo l=false:=t4 hk (.inl aa)
   refine gz hK4 U (.sk<|.sk<|.sk<|.pickT rfl rfl<|.nil) fun Y U=>wct U ?_
   replace U:=U.oz [0,1,7,8,9]
   refine hC U (.assign rfl .nil) fun Y U=>rt1 U ?_
   exact⟨by rw[hR],m5.below⟩
  intro aa U;try simp only [QQ,Qax] at aa
  have h0k:=aa
  refine gz hK4 U (.moveZ rfl<|.moveZ rfl<|.gtrZ rfl rfl<|.pickF rfl rfl<|.nil) fun Y U=>bc U 19 ?_ ?_
  ·
   intro ab U;try simp only [QQ,Qax] at ab
   have hR:inB mo l=false:=t4 hk (.inr ab)
   refine wct U ?_
   replace U:=U.oz [0,1,7,8,9]
   refine hC U (.assign rfl .nil) fun Y U=>rt1 U ?_
   exact⟨by rw[hR],m5.below⟩
  intro ab U;try simp only [QQ,Qax] at ab
  have hst:=sV hin hk (by omega) (by omega)
  refine wcf U<|zss (hK2 _ _ ?_)
  replace U:=U.oz [0,1,7,8,9]
  refine wp_region_lit<|g9 U (.inc (k+1)<|.move rfl .nil) fun Y U=>wpList_nil ?_
  show ∃ n',n'<_∧_
  exact⟨l.length - (k+1),by omega,k+1,by omega,hst,rfl,U.only [0,1,7,8,9],m5.only []⟩
 intro hb7 U;try simp only [QQ,Qax] at hb7
 have hR:inB mo l=true:=vh hin (by omega)
 refine wcf U<|wp_exit<|hK0 _ _<|hC U (.assign rfl .nil) fun Y U=>rt1 U ?_
 exact⟨by rw[hR],m5.below⟩
theorem ml(x:Cm)(pp pi)(cp ni ci:Nat)(w0:World)(h0:Rd (fun _=>True) w0 (.slice pp x.pl.length cp) (.ns .i64 x.pl))(h1:Rd (fun _=>True) w0 (.slice pi ni ci) (.l 2 (x.its.map itD))) :
   Calls Tryz.prog 26 #[.agg #[.int .i64 x.kd,.int .i64 x.vo,.int .i64 x.bl,.int .i64 x.sz,.int .i64 x.pe,.slice pp x.pl.length cp,.int .i64 x.to,.int .i64 x.at0,.int .i64 x.ix,.slice pi ni ci]] w0 fun e w' => ∃ b:Bool,e=.returned (.bool b)∧(b=true↔CmdR x)∧Below w0.heap.size w0 w':=by
 obtain rfl:ni=x.its.length:=by obtain⟨pq,cq,hv,_⟩:=h1.l_shape;injection hv with _ e2 _;rw[List.length_map] at e2;exact e2
 refine i9 Tryz.func26 rfl Tryz.ntmps26 fun Y U =>?_
 have m0:=MemOk.start (fun _=>False) w0
 refine zsr fun K0 hK0=>plz<|iu U m0 20 (cs:=[_,_,_,_,_,_,_,_,_,_]) rfl rfl rfl fun g1 Y w2 U m2 _ _=>gz hK0 U (.assign rfl .nil) fun Y U=>wsk fun K1 hK1=>zsr fun K2 hK2=>g9 U (.fa 0 rfl U38<|.lb m2 20 U3 rfl rfl rfl<|.lss rfl rfl<|.move rfl .nil) fun Y U=>bc U 8 ?_ ?_
 ·
  intro ak U;try simp only [QQ,Qax] at ak
  have hN:¬ CmdR x:=fun h9=>by have:=h9.kd;omega
  refine gz hK2 U (.sk<|.sk<|.sk<|.pickT rfl rfl<|.move rfl<|.sk<|.sk<|.sk<|.sk<|.sk<|.pickT rfl rfl<|.nil) fun Y U=>wct U ?_
  replace U:=U.oz [1,2]
  refine hC U (.assign rfl .nil) fun Y U=>rt1 U ?_
  exact⟨false,rfl,⟨fun h9=>(Bool.false_ne_true h9).elim,fun h9=>(hN h9).elim⟩,m2.below⟩
 intro ak U;try simp only [QQ,Qax] at ak
 have hk1:=ak
 refine g9 U (.faZ 0 rfl U38<|.loadB1Z m2 (i:=20) rfl rfl rfl U3 rfl<|.gtrZ rfl rfl<|.pickF rfl rfl<|.move rfl .nil) fun Y U=>bc U 13 ?_ ?_
 ·
  intro al U;try simp only [QQ,Qax] at al
  have hN:¬ CmdR x:=fun h9=>by have:=h9.kd;omega
  refine gz hK2 U (.sk<|.sk<|.sk<|.sk<|.sk<|.pickT rfl rfl<|.nil) fun Y U=>wct U ?_
  replace U:=U.oz [1,2]
  refine hC U (.assign rfl .nil) fun Y U=>rt1 U ?_
  exact⟨false,rfl,⟨fun h9=>(Bool.false_ne_true h9).elim,fun h9=>(hN h9).elim⟩,m2.below⟩
 intro al U;try simp only [QQ,Qax] at al
 have hk2:=al
 refine g9 U (.faZ 1 rfl U38<|.loadB1Z m2 (i:=20) rfl rfl rfl U3 rfl .nil) fun Y U=>stz U (iv U m2 21 (k:=.i64) rfl rfl U35 jI rfl rfl rfl rfl fun a0 Y a1 U aN =>?_)
 have aG:=aN.freezeN 21 rfl
 refine stz U (ecb U Tryz.func71 rfl aG (lx 7 [x.vo] _ _ _ (by first|exact hpl9|simp) ((aG.rd (i:=21) rfl).any)) fun Y a2 U ar =>?_)
 refine gz hK2 U (.notZ rfl<|.pickF rfl rfl<|.nil) fun Y U=>bc U 19 ?_ ?_
 ·
  intro ae U;try simp only [QQ,Qax] at ae
  have hN:¬ CmdR x:=fun h9=>by rw[sU.2 h9.vo] at ae;cases ae
  refine wct U ?_
  replace U:=U.oz [1,2]
  refine hC U (.assign rfl .nil) fun Y U=>rt1 U ?_
  exact⟨false,rfl,⟨fun h9=>(Bool.false_ne_true h9).elim,fun h9=>(hN h9).elim⟩,ar.below⟩
 intro ae U;try simp only [QQ,Qax] at ae
 have hvo:=sU.1 ae
 refine wcf U<|zss<|hK1 _ _<|wsk fun K3 hK3 =>?_
 replace U:=U.oz [1,2]
 refine zsr fun K4 hK4=>g9 U (.fa 2 rfl U38<|.lb ar 20 U3 rfl rfl rfl<|.fa 3 rfl U38<|.lb ar 20 U3 rfl rfl rfl<|.fa 4 rfl U38<|.lb ar 20 U3 rfl rfl rfl<|.fa 6 rfl U38<|.lb ar 20 U3 rfl rfl rfl<|.fa 8 rfl U38<|.lb ar 20 U3 rfl rfl rfl<|.fa 7 rfl U38<|.lb ar 20 U2 rfl rfl rfl .nil) fun Y U=>plz (iv U ar 22 (k:=.i64) rfl rfl U35 jI rfl rfl rfl rfl fun a3 Y a4 U aO =>?_)
 have aH:=aO.freezeN 22 rfl
 refine plz<|ecb U Tryz.func71 rfl aH (lx 1099511627776 [x.bl,x.sz,x.pe,x.to,x.ix,x.at0] _ _ _ (by first|exact hpl9|simp) ((aH.rd (i:=22) rfl).any)) fun Y a5 U aw=>gz hK4 U (.not rfl .nil) fun Y U=>bc U 34 ?_ ?_
 ·
  intro ag U;try simp only [QQ,Qax] at ag
  have hN:¬ CmdR x:=fun h9=>by have h6:=h9.t40;rw[xy.2 ⟨h6.1,h6.2.1,h6.2.2.1,h6.2.2.2.1,h6.2.2.2.2.2,h6.2.2.2.2.1⟩] at ag;cases ag
  refine wct U ?_
  replace U:=U.oz [1,2]
  refine hC U (.assign rfl .nil) fun Y U=>rt1 U ?_
  exact⟨false,rfl,⟨fun h9=>(Bool.false_ne_true h9).elim,fun h9=>(hN h9).elim⟩,aw.below⟩
 intro ag U;try simp only [QQ,Qax] at ag
 have aP:=xy.1 ag
 refine wcf U<|zss<|hK3 _ _<|wsk fun K5 hK5 =>?_
 replace U:=U.oz [1,2]
 refine zsr fun K6 hK6=>g9 U (.fa 5 rfl U38<|.lb aw 20 U35 rfl rfl rfl<|.len rfl U35<|.gtr rfl rfl<|.move rfl .nil) fun Y U=>bc U 39 ?_ ?_
 ·
  intro ao U;try simp only [QQ,Qax] at ao
  have hN:¬ CmdR x:=fun h9=>by have:=h9.pl;omega
  refine gz hK6 U (.sk<|.sk<|.sk<|.sk<|.pickT rfl rfl<|.move rfl<|.sk<|.sk<|.sk<|.sk<|.pickT rfl rfl<|.nil) fun Y U=>wct U ?_
  replace U:=U.oz [1,2]
  refine hC U (.assign rfl .nil) fun Y U=>rt1 U ?_
  exact⟨false,rfl,⟨fun h9=>(Bool.false_ne_true h9).elim,fun h9=>(hN h9).elim⟩,aw.below⟩
 intro ao U;try simp only [QQ,Qax] at ao
 have hpl9:x.pl.length≤1000000:=by omega
 have hpl:=ao
 refine g9 U (.faZ 5 rfl U38<|.loadB1Z aw (i:=20) rfl rfl rfl U35 rfl .nil) fun Y U=>stz U (ecb U Tryz.func71 rfl aw (lx 7 x.pl _ _ _ (by first|exact hpl9|simp) ((h0.now' aw rfl).any)) fun Y aQ U ah =>?_)
 refine g9 U (.notZ rfl<|.pickF rfl rfl<|.move rfl .nil) fun Y U=>bc U 45 ?_ ?_
 ·
  intro aa U;try simp only [QQ,Qax] at aa
  have hN:¬ CmdR x:=fun h9=>by rw[xx h9.pb] at aa;cases aa
  refine gz hK6 U (.sk<|.sk<|.sk<|.sk<|.pickT rfl rfl<|.nil) fun Y U=>wct U ?_
  replace U:=U.oz [1,2]
  refine hC U (.assign rfl .nil) fun Y U=>rt1 U ?_
  exact⟨false,rfl,⟨fun h9=>(Bool.false_ne_true h9).elim,fun h9=>(hN h9).elim⟩,ah.below⟩
 intro aa U;try simp only [QQ,Qax] at aa
 have hpb:=vg aa
 refine gz hK6 U (.faZ 9 rfl U38<|.loadB1Z ah (i:=20) rfl rfl rfl U36 rfl<|.lenZ rfl U36<|.gtrZ rfl rfl<|.pickF rfl rfl<|.nil) fun Y U=>bc U 50 ?_ ?_
 ·
  intro ai U;try simp only [QQ,Qax] at ai
  have hN:¬ CmdR x:=fun h9=>by have:=h9.il;omega
  refine wct U ?_
  replace U:=U.oz [1,2]
  refine hC U (.assign rfl .nil) fun Y U=>rt1 U ?_
  exact⟨false,rfl,⟨fun h9=>(Bool.false_ne_true h9).elim,fun h9=>(hN h9).elim⟩,ah.below⟩
 intro ai U;try simp only [QQ,Qax] at ai
 have hil:x.its.length≤8:=by omega
 refine wcf U<|zss<|hK5 _ _<|wsk fun K7 hK7 =>?_
 replace U:=U.oz [1,2]
 refine hC U (.fa 9 rfl U38<|.lb ah 20 U36 rfl rfl rfl<|.len rfl U36<|.move rfl .nil) fun Y U=>wp_block<|wp_loop_ghost (fun g a w => ∃ (k B:Nat),k≤x.its.length∧(∀ e∈x.its.take k,(0≤e.1∧e.1≤255)∧e.2.length≤32)∧g=x.its.length - k∧Has 70 [(1,.pointer (some ⟨B,0,none⟩)),(52,.slice pi x.its.length ci),(53,.int .i64 x.its.length),(54,.int .i64 k)] a∧MemOk (cn w0) w0 [(9,.box B 38 [.int .i64 x.kd,.int .i64 x.vo,.int .i64 x.bl,.int .i64 x.sz,.int .i64 x.pe,.slice pp x.pl.length cp,.int .i64 x.to,.int .i64 x.at0,.int .i64 x.ix,.slice pi x.its.length ci])] w) (x.its.length) ?_ ?_
 · exact⟨0,_,Nat.zero_le _,(fun e he=>by cases he),rfl,U.only [1,52,53,54],ah.ren [(9,20)] (by decide)⟩
 clear U ah
 rintro g Y aR ⟨k,B,hkl,hib,hg,U,au⟩
 refine hC U (.lss rfl rfl .nil) fun Y U=>wsk fun K8 hK8=>bc U 55 ?_ ?_
 ·
  intro aj U;try simp only [QQ,Qax] at aj
  have hk:k<x.its.length:=by omega
  obtain⟨⟨xb,xd⟩,hes⟩:∃ e,x.its[k]? = some e:=⟨_,List.getElem?_eq_getElem hk⟩
  refine wct U<|zss<|hK8 _ _<|wsk fun K9 hK9=>wp_block<|zsr fun a6 aD =>?_
  obtain⟨aI,aJ,aK,ax,aL,ay,av⟩:=h1.extA (k) (r:=[.v (.int .i64 xb),.ns .u8 xd]) (iB hes)
  revert U
  cases ax
  rcases ay with _|⟨ac,_|⟨ap,_|_⟩⟩
  obtain rfl:=ac.v_out
  clear ac
  obtain⟨aS,aT,az,aM⟩:=ap.ns_shape;subst az
  intro U
  refine g9 U (.c rfl (fun _ h_=>ii h_ rfl rfl U36 jA (k) rfl hk)<|.loadAt (av au rfl) rfl U59 rfl jA .nil) fun Y U=>plz<|hZ U au 101 qJ rfl fun aU Y aV U aE _ _=>plz (stw U aE 101 jA fun aW aA _ =>?_)
  refine znl<|aD _ _<|zsr fun a7 aB=>g9 U (.fa 0 rfl U59<|.lb aA 101 U3 rfl rfl rfl .nil) fun Y U=>plz (iv U aA 102 (k:=.i64) rfl rfl U35 jI rfl rfl rfl rfl fun aX Y aY U aF =>?_)
  have aC:=aF.freezeN 102 rfl
  refine plz<|ecb U Tryz.func71 rfl aC (lx 255 [xb] _ _ _ (by first|exact hpl9|simp) ((aC.rd (i:=102) rfl).any)) fun Y aZ U aq=>g9 U (.not rfl<|.move rfl .nil) fun Y U=>bc U 63 ?_ ?_
  ·
   intro ab U;try simp only [QQ,Qax] at ab
   have hN:¬ CmdR x:=fun h9=>by rw[sU.2 (h9.ib _ (List.mem_of_getElem? hes)).1] at ab;cases ab
   refine gz aB U (.sk<|.sk<|.sk<|.sk<|.pickT rfl rfl<|.nil) fun Y U=>wct U ?_
   replace U:=U.oz [1,52,53,54]
   refine hC U (.assign rfl .nil) fun Y U=>rt1 U ?_
   exact⟨false,rfl,⟨fun h9=>(Bool.false_ne_true h9).elim,fun h9=>(hN h9).elim⟩,aq.below⟩
  intro ab U;try simp only [QQ,Qax] at ab
  have hbk:=sU.1 ab
  refine gz aB U (.faZ 1 rfl U59<|.loadB1Z aq (i:=101) rfl rfl rfl U22 rfl<|.lenZ rfl U22<|.gtrZ rfl rfl<|.pickF rfl rfl<|.nil) fun Y U=>bc U 68 ?_ ?_
  ·
   intro ad U;try simp only [QQ,Qax] at ad
   have hN:¬ CmdR x:=fun h9=>by have:=h9.ib _ (List.mem_of_getElem? hes);dsimp only at this;omega
   refine wct U ?_
   replace U:=U.oz [1,52,53,54]
   refine hC U (.assign rfl .nil) fun Y U=>rt1 U ?_
   exact⟨false,rfl,⟨fun h9=>(Bool.false_ne_true h9).elim,fun h9=>(hN h9).elim⟩,aq.below⟩
  intro ad U;try simp only [QQ,Qax] at ad
  have hxd:=ad
  refine wcf U<|zss (hK9 _ _ ?_)
  replace U:=U.oz [1,52,53,54]
  refine wp_region_lit<|g9 U (.inc (k+1)<|.move rfl .nil) fun Y U=>wpList_nil ?_
  show ∃ n',n'<_∧_
  exact⟨x.its.length - (k+1),by omega,k+1,_,by omega,o7 hib hes (by dsimp only;omega),rfl,U.only [1,52,53,54],aq.only [9]⟩
 intro aj U;try simp only [QQ,Qax] at aj
 have hY:CmdR x:=⟨by omega,by omega,by omega,by omega,hpb,hil,fun e he=>hib e (by rwa [List.take_of_length_le (by omega)])⟩
 refine wcf U<|wp_exit<|hK7 _ _<|hC U (.assign rfl .nil) fun Y U=>rt1 U ?_
 exact⟨true,rfl,⟨fun _=>hY,fun _=>rfl⟩,au.below⟩
theorem lm(x:Cm)(hR:CmdR x)(pp pi)(cp ni ci:Nat)(w0:World)(h0:Rd (fun _=>True) w0 (.slice pp x.pl.length cp) (.ns .i64 x.pl))(h1:Rd (fun _=>True) w0 (.slice pi ni ci) (.l 2 (x.its.map itD))) :
   Calls Tryz.prog 26 #[.agg #[.int .i64 x.kd,.int .i64 x.vo,.int .i64 x.bl,.int .i64 x.sz,.int .i64 x.pe,.slice pp x.pl.length cp,.int .i64 x.to,.int .i64 x.at0,.int .i64 x.ix,.slice pi ni ci]] w0 fun e w'=>e=.returned (.bool true)∧Below w0.heap.size w0 w':=
 (ml x pp pi cp ni ci w0 h0 h1).mono fun e w' ⟨b,he,hb,hw⟩=>⟨by rw[he,hb.2 hR],hw⟩
theorem lN(x:Cm)(hR:¬ CmdR x)(pp pi)(cp ni ci:Nat)(w0:World)(h0:Rd (fun _=>True) w0 (.slice pp x.pl.length cp) (.ns .i64 x.pl))(h1:Rd (fun _=>True) w0 (.slice pi ni ci) (.l 2 (x.its.map itD))) :
   Calls Tryz.prog 26 #[.agg #[.int .i64 x.kd,.int .i64 x.vo,.int .i64 x.bl,.int .i64 x.sz,.int .i64 x.pe,.slice pp x.pl.length cp,.int .i64 x.to,.int .i64 x.at0,.int .i64 x.ix,.slice pi ni ci]] w0 fun e w'=>e=.returned (.bool false)∧Below w0.heap.size w0 w':=
 (ml x pp pi cp ni ci w0 h0 h1).mono fun e w' ⟨b,he,hb,hw⟩=>⟨by cases b with|false=>exact he|true=>exact absurd (hb.1 rfl) hR,hw⟩
theorem vj(b:List Int)(p)(c:Nat)(w0:World)(h0:Rd (fun _=>True) w0 (.slice p b.length c) (.ns .u8 b))(hl:b.length≤1000000) :
   Calls Tryz.prog 117 #[.slice p b.length c] w0 fun e w' => ∃ (p:Option Addr) (c:Nat),e=.returned (.slice p (enc (b.length:Int)++b).length c)∧w'.ownsRow w0.heap.size 5 1 (.slice p (enc (b.length:Int)++b).length c) (enc (b.length:Int)++b).length ((enc (b.length:Int)++b).map (Value.int .u8))∧Below w0.heap.size w0 w':=by
 refine i9 Tryz.func117 rfl Tryz.ntmps117 fun Y U =>?_
 have m0:=MemOk.start (fun _=>False) w0
 refine hC U (.assign rfl .nil) fun Y U=>zsr fun K0 hK0=>g9 U (.move rfl<|.len rfl U22<|.conv rfl U3 jV (r:=(b.length:Int)) (IntWalk.u64_in _ (by omega)) .nil) fun Y U=>plz (iv U m0 20 (k:=.u64) rfl rfl tX pW rfl rfl rfl rfl fun g8 Y w9 U m9 =>?_)
 have ab:=m9.freezeN 20 rfl
 refine plz<|ecn U Tryz.func104 rfl ab 21 (rh _ [(b.length:Int)] _ ((ab.rd (i:=20) rfl).any) (by simp) (oy (by omega))) fun ad ae Y ag U ac=>g9 U (.move rfl .nil) fun Y U=>plz<|iC U ac 21 rfl rfl rfl (h0.now' ac rfl).ns_out.nums U22 jU (by decide) (by rw[jl];have:=(i1 (b.length:Int)).1;omega) rfl fun ah ai Y aj U aa=>gz hK0 U (.assign rfl .nil) fun Y U=>rt1 U ?_
 rw[jl] at aa
 rw[jl]
 exact⟨_,_,rfl,aa.ok 21 _ rfl,aa.below⟩
theorem nH(l:List Int)(p)(c:Nat)(w0:World)(h0:Rd (fun _=>True) w0 (.slice p l.length c) (.ns .i64 l))(hl:l.length≤1000)(hb63:∀ z∈l,0≤z∧z≤9223372036854775807) :
   Calls Tryz.prog 69 #[.slice p l.length c] w0 fun e w' => ∃ (p:Option Addr) (c:Nat),e=.returned (.slice p (im [(l.length:Int)]++im l).length c)∧w'.ownsRow w0.heap.size 5 1 (.slice p (im [(l.length:Int)]++im l).length c) (im [(l.length:Int)]++im l).length ((im [(l.length:Int)]++im l).map (Value.int .u8))∧Below w0.heap.size w0 w':=by
 refine i9 Tryz.func69 rfl Tryz.ntmps69 fun Y U =>?_
 have m0:=MemOk.start (fun _=>False) w0
 refine hC U (.assign rfl .nil) fun Y U=>zsr fun K0 hK0=>g9 U (.move rfl<|.len rfl U35 .nil) fun Y U=>plz (iv U m0 20 (k:=.i64) rfl rfl U35 jI rfl rfl rfl rfl fun g6 Y w7 U m7 =>?_)
 have m8:=m7.freezeN 20 rfl
 refine plz<|ecn U Tryz.func57 rfl m8 21 (jS [(l.length:Int)] _ _ _ ((m8.rd (i:=20) rfl).any) (by simp) (l63 (fun z hz=>by simp at hz;subst hz;omega))) fun p9 c9 Y w9 U ab=>g9 U (.move rfl .nil) fun Y U=>plz (ecn U Tryz.func57 rfl ab 22 (jS l _ _ _ ((h0.now' ab rfl).any) (by omega) (l63 hb63)) fun ai aj Y ak U ae =>?_)
 have ag:=ae.freezeN 21 rfl
 have aa:=ag.freezeN 22 rfl
 refine plz (iN U aa 23 (mm:=1) rfl (.cons rfl rfl (.cons (aa.rd (i:=21) rfl) .nil)<|.cons rfl rfl (.cons (aa.rd (i:=22) rfl) .nil) .nil) U23 mS rfl rfl rfl rfl rfl fun al Y ao U ah =>?_)
 have ac:=ah.freezeR 23 rfl
 refine plz<|ecn U Tryz.func68 rfl ac 24 (j5 (ls:=[im [(l.length:Int)],im l]) (S:=im [(l.length:Int)]++im l) ((ac.rd (i:=23) rfl).any) (by simp) (by simp only [i4,List.flatten_cons,List.flatten_nil,List.length_append,List.length_nil];have:=ic [(l.length:Int)];have:=ic l;simp only [List.length_singleton] at *;omega) (by simp [j6,im])) fun ap aq Y ar U ad=>gz hK0 U (.assign rfl .nil) fun Y U=>rt1 U ?_
 exact⟨_,_,rfl,ad.ok 24 _ rfl,ad.below⟩
theorem ph(its:List (Int×List Int))(pi ni ci)(w0:World)(h1:Rd (fun _=>True) w0 (.slice pi ni ci) (.l 2 (its.map itD)))(hil:its.length≤8)(hib:∀ e∈its,(0≤e.1∧e.1≤255)∧e.2.length≤32) :
   Calls Tryz.prog 70 #[.slice pi ni ci] w0 fun e w' => ∃ (p:Option Addr) (c:Nat),e=.returned (.slice p (enc (its.length:Int)++ir its).length c)∧w'.ownsRow w0.heap.size 5 1 (.slice p (enc (its.length:Int)++ir its).length c) (enc (its.length:Int)++ir its).length ((enc (its.length:Int)++ir its).map (Value.int .u8))∧Below w0.heap.size w0 w':=by
 obtain rfl:ni=its.length:=by obtain⟨pq,cq,hv,_⟩:=h1.l_shape;injection hv with _ e2 _;rw[List.length_map] at e2;exact e2
 refine i9 Tryz.func70 rfl Tryz.ntmps70 fun Y U =>?_
 have m0:=MemOk.start (fun _=>False) w0
 refine hC U (.assign rfl .nil) fun Y U=>zsr fun K0 hK0=>g9 U (.move rfl<|.len rfl U36 .nil) fun Y U=>plz (iv U m0 20 (k:=.i64) rfl rfl U35 jI rfl rfl rfl rfl fun g6 Y w7 U m7 =>?_)
 have m8:=m7.freezeN 20 rfl
 refine plz<|ecn U Tryz.func57 rfl m8 21 (jS [(its.length:Int)] _ _ _ ((m8.rd (i:=20) rfl).any) (by simp) (l63 (fun z hz=>by simp at hz;subst hz;omega))) fun p9 c9 Y w9 U ah=>gz hK0 U (.assign rfl .nil) fun Y U=>wsk fun K1 hK1=>hC U (.move rfl<|.len rfl U36<|.move rfl .nil) fun Y U=>wp_block<|wp_loop_ghost (fun g a w => ∃ (k:Nat) (p:Option Addr) (c:Nat),k≤its.length∧g=its.length - k∧Has 29 [(3,.slice p (enc (its.length:Int)++ir (its.take k)).length c),(10,.slice pi its.length ci),(11,.int .i64 its.length),(12,.int .i64 k)] a∧MemOk (cn w0) w0 [(8,.num (.slice p (enc (its.length:Int)++ir (its.take k)).length c) 5 .u8 (enc (its.length:Int)++ir (its.take k)))] w) (its.length) ?_ ?_
 · rw[show im [(its.length:Int)]=(enc (its.length:Int)++ir (its.take 0)) by simp [im,ir]] at ah U
   exact⟨0,_,_,Nat.zero_le _,rfl,U.only [3,10,11,12],ah.ren [(8,21)] (by decide)⟩
 clear U ah
 rintro g Y aI ⟨k,p,c,hkl,hg,U,ad⟩
 refine hC U (.lss rfl rfl .nil) fun Y U=>wsk fun K2 hK2=>bc U 13 ?_ ?_
 ·
  intro ac U;try simp only [QQ,Qax] at ac
  have hk:k<its.length:=by omega
  obtain⟨⟨xb,xd⟩,hes⟩:∃ e,its[k]? = some e:=⟨_,List.getElem?_eq_getElem hk⟩
  have hx:=hib _ (List.mem_of_getElem? hes)
  dsimp only at hx
  have hlI:=ox its k hib
  refine wct U<|zss<|hK2 _ _<|wsk fun K3 hK3=>wp_block<|zsr fun K4 hK4 =>?_
  obtain⟨aA,aB,aC,ai,aD,aj,ae⟩:=h1.extA (k) (r:=[.v (.int .i64 xb),.ns .u8 xd]) (iB hes)
  revert U
  cases ai
  rcases aj with _|⟨aa,_|⟨ab,_|_⟩⟩
  obtain rfl:=aa.v_out
  clear aa
  obtain⟨aJ,aK,ak,aE⟩:=ab.ns_shape;subst ak
  intro U
  refine g9 U (.c rfl (fun _ h_=>ii h_ rfl rfl U36 jA (k) rfl hk)<|.loadAt (ae ad rfl) rfl U59 rfl jA .nil) fun Y U=>plz<|hZ U ad 101 qJ rfl fun aL Y aM U aF _ _=>plz (stw U aF 101 jA fun aN aG _ =>?_)
  refine znl (hK4 _ _ ?_)
  have al:=aG.oz [8,101]
  refine region_p 10 (B:=[(8,_),(101,_)]) (al.to i2l) al (by kernel_rfl) (fun aO ag ar =>?_);clear al
  refine goR ag [0,1,2,5,6] [2,6] 5 0 103 U (ar.to i2l) (.move rfl<|.fa 0 rfl U59<|.lb hh 101 U3 rfl rfl rfl<|.fa 1 rfl U59<|.lb hh 101 U22 rfl rfl rfl .nil) fun Y U=>so 3 ?_
  refine iv U ar 102 (k:=.i64) rfl rfl U35 jI rfl rfl rfl rfl fun aP Y aQ U au=>⟨au.to i2l,?_⟩
  have av:=au.freezeN 102 rfl
  refine so 4 ?_
  refine ecn U Tryz.func57 rfl av 103 (jS [xb] _ _ _ ((av.rd (i:=102) rfl).any) (by simp) (l63 (fun z hz=>by simp at hz;subst hz;omega))) fun aR aS Y aT U ao=>⟨ao.to i2l,?_⟩
  refine so 7 ?_
  refine ecn U Tryz.func117 rfl ao 104 (vj xd _ _ _ ((ab.now' ao rfl).any) (by omega)) fun aU aV Y aW U aw=>⟨aw.to i2l,?_⟩
  have aH:=aw.freezeN 103 rfl
  have ap:=aH.freezeN 104 rfl
  refine so 8 ?_
  refine iN U ap 105 (mm:=1) rfl (.cons rfl rfl (.cons (ap.rd (i:=103) rfl) .nil)<|.cons rfl rfl (.cons (ap.rd (i:=104) rfl) .nil) .nil) U23 mS rfl rfl rfl rfl rfl fun aX Y aY U ax=>⟨ax.to i2l,?_⟩
  have ay:=ax.freezeR 105 rfl
  refine so 9 ?_
  refine ecn U Tryz.func68 rfl ay 106 (j5 (ls:=[im [xb],enc (xd.length:Int)++xd]) (S:=j6 (xb,xd)) ((ay.rd (i:=105) rfl).any) (by simp) (by simp only [i4,List.flatten_cons,List.flatten_nil,List.length_append,List.length_nil];have:=ic [xb];have:=(i1 (xd.length:Int)).1;simp only [List.length_singleton] at *;omega) (by simp [j6,im])) fun aZ a0 Y a1 U aq=>⟨aq.to i2l,?_⟩
  refine se 10 ?_
  refine iC U aq 8 rfl rfl rfl (aq.numsO (i:=106) rfl) U22 jU (by decide) (by have:=pk xb xd hx;simp only [List.length_append] at *;omega) rfl fun a2 a3 Y a4 U az=>goB ag [11] 1 2047 4095 U (.assign rfl .nil) fun Y U=>wad<|hK3 _ _ ?_
  replace U:=U.oz [3,10,11,12]
  refine wp_region_lit<|g9 U (.inc (k+1)<|.move rfl .nil) fun Y U=>wpList_nil ?_
  show ∃ n',n'<_∧_
  rw[sW hes] at az U
  exact⟨its.length - (k+1),by omega,k+1,_,_,by omega,rfl,U.only [3,10,11,12],az.ren [(8,8)] (by decide)⟩
 intro ac U;try simp only [QQ,Qax] at ac
 revert U
 obtain rfl:k=its.length:=by omega
 intro U
 refine wcf U<|wp_exit<|hK1 _ _<|hC U (.move rfl<|.assign rfl .nil) fun Y U=>rt1 U ?_
 rw[List.take_length] at ad ⊢
 exact⟨_,_,rfl,ad.ok 8 _ rfl,ad.below⟩
theorem ri(x:Cm)(hR:¬ CmdR x)(pp pi)(cp ni ci:Nat)(w0:World)(h0:Rd (fun _=>True) w0 (.slice pp x.pl.length cp) (.ns .i64 x.pl))(h1:Rd (fun _=>True) w0 (.slice pi ni ci) (.l 2 (x.its.map itD))) :
   Calls Tryz.prog 25 #[.agg #[.int .i64 x.kd,.int .i64 x.vo,.int .i64 x.bl,.int .i64 x.sz,.int .i64 x.pe,.slice pp x.pl.length cp,.int .i64 x.to,.int .i64 x.at0,.int .i64 x.ix,.slice pi ni ci]] w0 fun e w'=>e=.returned (.tuple #[.slice none 0 0,.int .i64 23])∧Below w0.heap.size w0 w':=by
 obtain rfl:ni=x.its.length:=by obtain⟨pq,cq,hv,_⟩:=h1.l_shape;injection hv with _ e2 _;rw[List.length_map] at e2;exact e2
 refine i9 Tryz.func25 rfl Tryz.ntmps25 fun Y U =>?_
 have m0:=MemOk.start (fun _=>False) w0
 refine zsr fun K0 hK0=>plz<|iu U m0 20 (cs:=[_,_,_,_,_,_,_,_,_,_]) rfl rfl rfl fun g1 Y w2 U m2 _ _=>gz hK0 U (.assign rfl<|.assign rfl<|.nil) fun Y U=>wsk fun K1 hK1=>zsr fun K2 hK2=>g9 U (.loadBR m2 (i:=20) rfl rfl U38 rfl ip (by simp) (by dsimp only [List.drop,List.take] <;> rfl) .nil) fun Y U=>plz<|ecb U Tryz.func26 rfl m2 (lN x hR _ _ _ _ _ _ ((h0.now' m2 rfl).any) ((h1.now' m2 rfl).any)) fun Y w7 U m8=>gz hK2 U (.not rfl .nil) fun Y U=>wct U<|hC U (.assign rfl<|.assign rfl .nil) fun Y U=>rt2 U ?_
 exact⟨rfl,m8.below⟩
theorem mr(x:Cm)(hR:CmdR x)(pp pi)(cp ni ci:Nat)(w0:World)(h0:Rd (fun _=>True) w0 (.slice pp x.pl.length cp) (.ns .i64 x.pl))(h1:Rd (fun _=>True) w0 (.slice pi ni ci) (.l 2 (x.its.map itD))) :
   Calls Tryz.prog 25 #[.agg #[.int .i64 x.kd,.int .i64 x.vo,.int .i64 x.bl,.int .i64 x.sz,.int .i64 x.pe,.slice pp x.pl.length cp,.int .i64 x.to,.int .i64 x.at0,.int .i64 x.ix,.slice pi ni ci]] w0 fun e w' => ∃ (p:Option Addr) (c:Nat),e=.returned (.tuple #[.slice p (cmE x).length c,.int .i64 0])∧w'.ownsRow w0.heap.size 5 1 (.slice p (cmE x).length c) (cmE x).length ((cmE x).map (Value.int .u8))∧Below w0.heap.size w0 w':=by
 obtain rfl:ni=x.its.length:=by obtain⟨pq,cq,hv,_⟩:=h1.l_shape;injection hv with _ e2 _;rw[List.length_map] at e2;exact e2
 refine i9 Tryz.func25 rfl Tryz.ntmps25 fun Y U =>?_
 have m0:=MemOk.start (fun _=>False) w0
 refine zsr fun K0 hK0=>plz<|iu U m0 20 (cs:=[_,_,_,_,_,_,_,_,_,_]) rfl rfl rfl fun g1 Y w2 U m2 _ _=>gz hK0 U (.assign rfl<|.assign rfl<|.nil) fun Y U=>wsk fun K1 hK1=>zsr fun K2 hK2=>g9 U (.loadBR m2 (i:=20) rfl rfl U38 rfl ip (by simp) (by dsimp only [List.drop,List.take] <;> rfl) .nil) fun Y U=>plz<|ecb U Tryz.func26 rfl m2 (lm x hR _ _ _ _ _ _ ((h0.now' m2 rfl).any) ((h1.now' m2 rfl).any)) fun Y w7 U m8=>gz hK2 U (.not rfl .nil) fun Y U=>wcf U<|zss<|hK1 _ _<|zsr fun K3 hK3=>g9 U (.fa 0 rfl U38<|.lb m8 20 U3 rfl rfl rfl<|.fa 1 rfl U38<|.lb m8 20 U3 rfl rfl rfl<|.fa 2 rfl U38<|.lb m8 20 U3 rfl rfl rfl<|.fa 3 rfl U38<|.lb m8 20 U3 rfl rfl rfl<|.fa 4 rfl U38<|.lb m8 20 U3 rfl rfl rfl<|.fa 6 rfl U38<|.lb m8 20 U3 rfl rfl rfl<|.fa 7 rfl U38<|.lb m8 20 U2 rfl rfl rfl<|.fa 8 rfl U38<|.lb m8 20 U3 rfl rfl rfl .nil) fun Y U=>plz (iv U m8 21 (k:=.i64) rfl rfl U35 jI rfl rfl rfl rfl fun ar Y au U al =>?_)
 have ah:=al.freezeN 21 rfl
 refine plz<|ecn U Tryz.func57 rfl ah 22 (jS [x.kd,x.vo,x.bl,x.sz,x.pe,x.to,x.at0,x.ix] _ _ _ ((ah.rd (i:=21) rfl).any) (by simp) (l63 (fun z hz=>by simp at hz;have:=hR.kd;have:=hR.vo;have:=hR.t40;omega))) fun av aw Y ax U ao=>gz hK3 U (.assign rfl .nil) fun Y U=>wsk fun K4 hK4 =>?_
 replace U:=U.oz [1,2,3,4]
 have ad:=ao.oz [20,21,22]
 refine region_p 11 (B:=[(20,_)]) (ad.to i1l) ad (by kernel_rfl) (fun ay aa ae =>?_);clear ad
 refine goR aa [0,1,2,4,5] [2,5] 5 0 55 U (ae.to i1l) (.move rfl<|.fa 5 rfl U38<|.lb hh 20 U35 rfl rfl rfl<|.fa 9 rfl U38<|.lb hh 20 U36 rfl rfl rfl .nil) fun Y U=>so 3 ?_
 refine ecn U Tryz.func69 rfl ae 23 (nH x.pl _ _ _ ((h0.now' ae rfl).any) (by have:=hR.pl;omega) (fun z hz=>by have:=hR.pb z hz;omega)) fun az aA Y aB U ag=>⟨ag.to i1l,?_⟩
 refine so 6 ?_
 refine ecn U Tryz.func70 rfl ag 24 (ph x.its _ _ _ _ ((h1.now' ag rfl).any) hR.il hR.ib) fun aC aD Y aE U ai=>⟨ai.to i1l,?_⟩
 have ap:=ai.freezeN 22 rfl
 have aq:=ap.freezeN 23 rfl
 have ab:=aq.freezeN 24 rfl
 refine so 7 ?_
 refine iN U ab 25 (mm:=1) rfl (.cons rfl rfl (.cons (ab.rd (i:=22) rfl) .nil)<|.cons rfl rfl (.cons (ab.rd (i:=23) rfl) .nil)<|.cons rfl rfl (.cons (ab.rd (i:=24) rfl) .nil) .nil) U23 mS rfl rfl rfl rfl rfl fun aF Y aG U aj=>⟨aj.to i1l,?_⟩
 have ak:=aj.freezeR 25 rfl
 refine so 8 ?_
 refine ecn U Tryz.func68 rfl ak 26 (j5 (ls:=[im [x.kd,x.vo,x.bl,x.sz,x.pe,x.to,x.at0,x.ix],im [(x.pl.length:Int)]++im x.pl,enc (x.its.length:Int)++ir x.its]) (S:=cmE x) ((ak.rd (i:=25) rfl).any) (by simp) (vi hR) (sX x)) fun aH aI Y aJ U ac=>⟨ac.to i1l,?_⟩
 refine goA aa [9,10] 2 511 2047 U (ac.to i1l) (.assign rfl<|.assign rfl .nil) fun Y U=>wad<|hK4 _ _<|rt2 U ?_
 exact⟨_,_,rfl,(ac.ok 26 _ rfl),ac.below⟩
end
section
theorem lz{T:List (Nat×Value)}{w:World}{p q r:Int}{gd:Option (Nat×Bool)}(h:Has n T a)(hx:evT T x=some (.int k p))(hy:evT T y=some (.int k q))(hr:bits .andNot k p q=r):Yl P a w ⟨d,.binOp .andNot t x y t2,tt,pos,af,gd⟩ (.int k r):=by
 subst hr
 show(execOp _ _).run P w=_;simp only [execOp,eqGuard,binOp,Op.intBits,h.ev hx,h.ev hy,bits];simp
end
section
theorem oC(X B v er cd w0)(m0:MemOk X w0 [(1,.box B 148 [v,.int .i64 er])] w0) :
   Calls Tryz.prog 107 #[.pointer (some ⟨B,0,none⟩),.int .i64 cd] w0 fun e w'=>e=.returned (.tuple #[])∧MemOk X w0 [(1,.box B 148 [.slice none 0 0,.int .i64 cd])] w':=by
 refine iZ Tryz.func107 rfl Tryz.ntmps107 fun Y U=>wp_region_lit<|g9 U (.move rfl<|.move rfl<|.move rfl<|.nilCheck rfl<|.fa 0 rfl l7 .nil) fun Y U=>plz (st1 U m0 1 nZ fun w6 m6 _ =>?_)
 refine g9 U (.nilCheck rfl<|.fa 1 rfl l7 .nil) fun Y U=>plz (st1 U m6 1 yA fun w9 m9 _ =>?_)
 refine wpList_nil ?_
 try dsimp only [Exit.then,Exit.inBlock]
 try refine oU ?_
 refine(y6 (fn:=Tryz.f107) U rfl ?_)
 exact⟨rfl,m9.only [1]⟩
theorem nM(X B)(b:List Int)(er p)(c:Nat)(w0)(hb:b.length≤1000000)(hbb:BytesL b)(m0:MemOk X w0 [(1,.box B 148 [.slice p (b).length c,.int .i64 er]),(2,.dat (.slice p (b).length c) (.ns .u8 (b)))] w0) :
   Calls Tryz.prog 106 #[.pointer (some ⟨B,0,none⟩)] w0 fun e w' => ∃ (n:Nat) (p':Option Addr) (c':Nat) (r:List Int) (e1:Int),e=.returned (.tuple #[.int .u64 (n:Int),.int .i64 e1])∧((∃ j,dec 0 0 b=.ok n j∧e1=0∧r=b.drop j)∨(dec 0 0 b=.err e1∧n=0∧r=b))∧MemOk X w0 [(1,.box B 148 [.slice p' (r).length c',.int .i64 er]),(2,.dat (.slice p' (r).length c') (.ns .u8 (r)))] w':=by
 refine i9 Tryz.func106 rfl Tryz.ntmps106 fun Y U=>hC U (.assign rfl<|.assign rfl .nil) fun Y U=>hC U (.assign rfl .nil) fun Y U=>wsk fun K0 hK0=>hC U (.move rfl<|.nilCheck rfl<|.fa 0 rfl l7<|.lb m0 1 U22 rfl rfl rfl<|.len rfl U22<|.move rfl .nil) fun Y U=>wp_block<|wp_loop_ghost (fun g a w => ∃ (k u:Nat),k≤b.length∧k≤9∧g=b.length - k∧u<2 ^ (7*k)∧dec u k (b.drop k)=dec 0 0 b∧Has 53 [(0,.pointer (some ⟨B,0,none⟩)),(4,.int .u64 (u:Int)),(10,.slice p b.length c),(11,.int .i64 b.length),(12,.int .i64 k)] a∧MemOk X w0 [(1,.box B 148 [.slice p (b).length c,.int .i64 er]),(2,.dat (.slice p (b).length c) (.ns .u8 (b)))] w) (b.length) ?_ ?_
 · exact⟨0,0,Nat.zero_le _,Nat.zero_le _,rfl,by decide,rfl,U.only [0,4,10,11,12],m0.only [1,2]⟩
 clear U m0
 rintro g Y aE ⟨k,u,hkl,hk9,hg,hu,hD0,U,ay⟩
 refine hC U (.lss rfl rfl .nil) fun Y U=>wsk fun K1 hK1=>bc U 13 ?_ ?_
 ·
  intro ah U;try simp only [QQ,Qax] at ah
  have hk:k<b.length:=by omega
  have hxb:=rM hbb hk
  have hD:=hD0
  rw[uf hk] at hD
  refine wct U<|zss<|hK1 _ _<|wsk fun K2 hK2=>wp_block<|zsr fun K3 hK3=>g9 U (.move rfl .nil) fun Y U =>?_
  obtain⟨aF,aG,au,aa⟩:=ay.openN (i:=2) rfl (k) hk 100 rfl
  revert U
  cases au
  intro U
  refine gz hK3 U (.c rfl (fun _ h_=>ii h_ rfl rfl U22 jw (k) rfl hk)<|.loadC0 aa (i:=100) rfl rfl U5 rfl<|.assign rfl<|.assign rfl<|.nil) fun Y U=>wsk fun K4 hK4=>zsr fun K5 hK5=>g9 U (.move rfl<|.eql rfl rfl<|.move rfl .nil) fun Y U=>bc U 19 ?_ ?_
  ·
   intro ai U;try simp only [QQ,Qax] at ai
   refine g9 U (.moveZ rfl<|.gtrZ rfl rfl<|.pickT rfl rfl<|.move rfl .nil) fun Y U=>bc U 23 ?_ ?_
   ·
    intro aj U;try simp only [QQ,Qax] at aj
    have hE:dec 0 0 b=.err 20:=by rw[← hD,if_pos (by omega)]
    refine g9 U (.sk<|.sk<|.sk .nil) fun Y U=>iE U rfl rfl rfl rfl fun Y U=>iE U rfl rfl rfl rfl fun Y U=>gz hK5 U (.sk<|.pickT rfl rfl<|.nil) fun Y U=>wct U ?_
    replace U:=U.oz [0,4,10,11,12,5,6,19,23,26,30]
    refine hC U (.assign rfl<|.assign rfl .nil) fun Y U=>rt2 U ?_
    exact⟨0,_,_,b,_,rfl,.inr ⟨hE,rfl,rfl⟩,aa.ren [(1,1),(2,2)] (by decide)⟩
   intro aj U;try simp only [QQ,Qax] at aj
   refine g9 U (.moveZ rfl<|.gtrZ rfl rfl<|.moveZ rfl .nil) fun Y U=>bc U 26 ?_ ?_
   ·
    intro ak U;try simp only [QQ,Qax] at ak
    refine gz hK5 U (.moveZ rfl<|.eqlZ rfl rfl<|.pickTZ rfl rfl<|.pickF rfl rfl<|.nil) fun Y U=>bc U 30 ?_ ?_
    ·
     intro al U;try simp only [QQ,Qax] at al
     have hE:dec 0 0 b=.err 20:=by rw[← hD,if_pos (by omega)]
     refine wct U ?_
     replace U:=U.oz [0,4,10,11,12,5,6,19,23,26,30]
     refine hC U (.assign rfl<|.assign rfl .nil) fun Y U=>rt2 U ?_
     exact⟨0,_,_,b,_,rfl,.inr ⟨hE,rfl,rfl⟩,aa.ren [(1,1),(2,2)] (by decide)⟩
    intro al U;try simp only [QQ,Qax] at al
    have hno:¬ ((k=9∧1<(b.getD k 0))∨(0<k∧(b.getD k 0)=0)):=by omega
    have h9:k=9→(b.getD k 0)≤1:=by omega
    obtain⟨v,hv⟩:∃ v,u+((b.getD k 0) % 128).toNat*2 ^ (7*k)=v:=⟨_,rfl⟩
    refine wcf U<|zss (hK4 _ _ ?_)
    replace U:=U.oz [0,4,10,11,12,5,6,19,23,26,30]
    refine hC U (.move rfl<|.move rfl<|.c rfl (fun _ h_=>lz h_ rfl rfl (r:=(b.getD k 0) % 128) (kX _ hxb.1 hxb.2))<|.conv rfl U5 jV (r:=(b.getD k 0) % 128) (IntWalk.u64_in _ (by omega))<|.move rfl<|.mul rfl rfl (r:=7*(k:Int)) (IntWalk.i64_in _ (by omega))<|.shl rfl rfl (by omega) (r:=IntKind.u64.wrap ((b.getD k 0) % 128*2 ^ (7*k))) (by rw[shx hk9])<|.or rfl rfl (r:=(v:Int)) (by rw[← hv];exact kx u k (b.getD k 0) hu hk9 hxb.1 hxb.2 h9)<|.assign rfl .nil) fun Y U =>?_
    replace U:=U.oz [0,4,10,11,12,5,6,19,23,26,30]
    refine hC U (.move rfl<|.lss rfl rfl .nil) fun Y U=>bc U 40 ?_ ?_
    ·
     intro ao U;try simp only [QQ,Qax] at ao
     have hO:dec 0 0 b=.ok v (k+1):=by rw[← hD,if_neg hno,if_pos (by omega),hv]
     refine wct U<|zsr fun K6 hK6=>g9 U (.move rfl<|.move rfl<|.nilCheck rfl<|.fa 0 rfl l7<|.lb aa 1 U22 rfl rfl rfl<|.move rfl<|.inc (k+1) .nil) fun Y U =>?_
     have aA:=aa.dropN (i:=2) rfl (k+1) (show k+1≤b.length by omega) 101 rfl
     refine g9 U (.c rfl (fun _ h_=>iK h_ (k+1) rfl rfl U22 jw rfl (show k+1≤b.length by omega))<|.nilCheck rfl<|.fa 0 rfl l7 .nil) fun Y U=>plz (st1 U aA 1 nZ fun aH az _ =>?_)
     refine znl (hK6 _ _ ?_)
     replace U:=U.oz [0,4,10,11,12,19,23,26,30,40]
     refine hC U (.move rfl<|.assign rfl<|.assign rfl .nil) fun Y U=>rt2 U ?_
     have hl9:b.length - (k+1)=(b.drop (k+1)).length:=by rw[List.length_drop]
     rw[hl9] at az
     exact⟨v,_,_,b.drop (k+1),0,rfl,.inl ⟨_,hO,rfl,rfl⟩,az.ren [(1,1),(2,101)] (by decide)⟩
    intro ao U;try simp only [QQ,Qax] at ao
    refine wcf U<|zss<|hK2 _ _<|wp_region_lit<|g9 U (.inc (k+1)<|.move rfl .nil) fun Y U=>wpList_nil ?_
    show ∃ n',n'<_∧_
    exact⟨b.length - (k+1),by omega,k+1,v,by omega,by omega,rfl,by rw[← hv];exact jv u k (b.getD k 0) hu,by rw[← hD,if_neg hno,if_neg (by omega),hv],U.only [0,4,10,11,12],aa.only [1,2]⟩
   intro ak U;try simp only [QQ,Qax] at ak
   have hno:¬ ((k=9∧1<(b.getD k 0))∨(0<k∧(b.getD k 0)=0)):=by omega
   have h9:k=9→(b.getD k 0)≤1:=by omega
   obtain⟨v,hv⟩:∃ v,u+((b.getD k 0) % 128).toNat*2 ^ (7*k)=v:=⟨_,rfl⟩
   refine gz hK5 U (.sk<|.sk<|.pickFZ rfl rfl<|.pickF rfl rfl<|.nil) fun Y U=>wcf U<|zss (hK4 _ _ ?_)
   replace U:=U.oz [0,4,10,11,12,5,6,19,23,26,30]
   refine hC U (.move rfl<|.move rfl<|.c rfl (fun _ h_=>lz h_ rfl rfl (r:=(b.getD k 0) % 128) (kX _ hxb.1 hxb.2))<|.conv rfl U5 jV (r:=(b.getD k 0) % 128) (IntWalk.u64_in _ (by omega))<|.move rfl<|.mul rfl rfl (r:=7*(k:Int)) (IntWalk.i64_in _ (by omega))<|.shl rfl rfl (by omega) (r:=IntKind.u64.wrap ((b.getD k 0) % 128*2 ^ (7*k))) (by rw[shx hk9])<|.or rfl rfl (r:=(v:Int)) (by rw[← hv];exact kx u k (b.getD k 0) hu hk9 hxb.1 hxb.2 h9)<|.assign rfl .nil) fun Y U =>?_
   replace U:=U.oz [0,4,10,11,12,5,6,19,23,26,30]
   refine hC U (.move rfl<|.lss rfl rfl .nil) fun Y U=>bc U 40 ?_ ?_
   ·
    intro ab U;try simp only [QQ,Qax] at ab
    have hO:dec 0 0 b=.ok v (k+1):=by rw[← hD,if_neg hno,if_pos (by omega),hv]
    refine wct U<|zsr fun K7 hK7=>g9 U (.move rfl<|.move rfl<|.nilCheck rfl<|.fa 0 rfl l7<|.lb aa 1 U22 rfl rfl rfl<|.move rfl<|.inc (k+1) .nil) fun Y U =>?_
    have av:=aa.dropN (i:=2) rfl (k+1) (show k+1≤b.length by omega) 101 rfl
    refine g9 U (.c rfl (fun _ h_=>iK h_ (k+1) rfl rfl U22 jw rfl (show k+1≤b.length by omega))<|.nilCheck rfl<|.fa 0 rfl l7 .nil) fun Y U=>plz (st1 U av 1 nZ fun aB ap _ =>?_)
    refine znl (hK7 _ _ ?_)
    replace U:=U.oz [0,4,10,11,12,19,23,26,30,40]
    refine hC U (.move rfl<|.assign rfl<|.assign rfl .nil) fun Y U=>rt2 U ?_
    have hl9:b.length - (k+1)=(b.drop (k+1)).length:=by rw[List.length_drop]
    rw[hl9] at ap
    exact⟨v,_,_,b.drop (k+1),0,rfl,.inl ⟨_,hO,rfl,rfl⟩,ap.ren [(1,1),(2,101)] (by decide)⟩
   intro ab U;try simp only [QQ,Qax] at ab
   refine wcf U<|zss<|hK2 _ _<|wp_region_lit<|g9 U (.inc (k+1)<|.move rfl .nil) fun Y U=>wpList_nil ?_
   show ∃ n',n'<_∧_
   exact⟨b.length - (k+1),by omega,k+1,v,by omega,by omega,rfl,by rw[← hv];exact jv u k (b.getD k 0) hu,by rw[← hD,if_neg hno,if_neg (by omega),hv],U.only [0,4,10,11,12],aa.only [1,2]⟩
  intro ai U;try simp only [QQ,Qax] at ai
  refine g9 U (.sk<|.sk<|.pickF rfl rfl<|.move rfl<|.moveZ rfl<|.gtrZ rfl rfl<|.moveZ rfl .nil) fun Y U=>bc U 26 ?_ ?_
  ·
   intro ac U;try simp only [QQ,Qax] at ac
   refine gz hK5 U (.moveZ rfl<|.eqlZ rfl rfl<|.pickTZ rfl rfl<|.pickF rfl rfl<|.nil) fun Y U=>bc U 30 ?_ ?_
   ·
    intro ad U;try simp only [QQ,Qax] at ad
    have hE:dec 0 0 b=.err 20:=by rw[← hD,if_pos (by omega)]
    refine wct U ?_
    replace U:=U.oz [0,4,10,11,12,5,6,19,23,26,30]
    refine hC U (.assign rfl<|.assign rfl .nil) fun Y U=>rt2 U ?_
    exact⟨0,_,_,b,_,rfl,.inr ⟨hE,rfl,rfl⟩,aa.ren [(1,1),(2,2)] (by decide)⟩
   intro ad U;try simp only [QQ,Qax] at ad
   have hno:¬ ((k=9∧1<(b.getD k 0))∨(0<k∧(b.getD k 0)=0)):=by omega
   have h9:k=9→(b.getD k 0)≤1:=by omega
   obtain⟨v,hv⟩:∃ v,u+((b.getD k 0) % 128).toNat*2 ^ (7*k)=v:=⟨_,rfl⟩
   refine wcf U<|zss (hK4 _ _ ?_)
   replace U:=U.oz [0,4,10,11,12,5,6,19,23,26,30]
   refine hC U (.move rfl<|.move rfl<|.c rfl (fun _ h_=>lz h_ rfl rfl (r:=(b.getD k 0) % 128) (kX _ hxb.1 hxb.2))<|.conv rfl U5 jV (r:=(b.getD k 0) % 128) (IntWalk.u64_in _ (by omega))<|.move rfl<|.mul rfl rfl (r:=7*(k:Int)) (IntWalk.i64_in _ (by omega))<|.shl rfl rfl (by omega) (r:=IntKind.u64.wrap ((b.getD k 0) % 128*2 ^ (7*k))) (by rw[shx hk9])<|.or rfl rfl (r:=(v:Int)) (by rw[← hv];exact kx u k (b.getD k 0) hu hk9 hxb.1 hxb.2 h9)<|.assign rfl .nil) fun Y U =>?_
   replace U:=U.oz [0,4,10,11,12,5,6,19,23,26,30]
   refine hC U (.move rfl<|.lss rfl rfl .nil) fun Y U=>bc U 40 ?_ ?_
   ·
    intro ae U;try simp only [QQ,Qax] at ae
    have hO:dec 0 0 b=.ok v (k+1):=by rw[← hD,if_neg hno,if_pos (by omega),hv]
    refine wct U<|zsr fun K8 hK8=>g9 U (.move rfl<|.move rfl<|.nilCheck rfl<|.fa 0 rfl l7<|.lb aa 1 U22 rfl rfl rfl<|.move rfl<|.inc (k+1) .nil) fun Y U =>?_
    have aw:=aa.dropN (i:=2) rfl (k+1) (show k+1≤b.length by omega) 101 rfl
    refine g9 U (.c rfl (fun _ h_=>iK h_ (k+1) rfl rfl U22 jw rfl (show k+1≤b.length by omega))<|.nilCheck rfl<|.fa 0 rfl l7 .nil) fun Y U=>plz (st1 U aw 1 nZ fun aC aq _ =>?_)
    refine znl (hK8 _ _ ?_)
    replace U:=U.oz [0,4,10,11,12,19,23,26,30,40]
    refine hC U (.move rfl<|.assign rfl<|.assign rfl .nil) fun Y U=>rt2 U ?_
    have hl9:b.length - (k+1)=(b.drop (k+1)).length:=by rw[List.length_drop]
    rw[hl9] at aq
    exact⟨v,_,_,b.drop (k+1),0,rfl,.inl ⟨_,hO,rfl,rfl⟩,aq.ren [(1,1),(2,101)] (by decide)⟩
   intro ae U;try simp only [QQ,Qax] at ae
   refine wcf U<|zss<|hK2 _ _<|wp_region_lit<|g9 U (.inc (k+1)<|.move rfl .nil) fun Y U=>wpList_nil ?_
   show ∃ n',n'<_∧_
   exact⟨b.length - (k+1),by omega,k+1,v,by omega,by omega,rfl,by rw[← hv];exact jv u k (b.getD k 0) hu,by rw[← hD,if_neg hno,if_neg (by omega),hv],U.only [0,4,10,11,12],aa.only [1,2]⟩
  intro ac U;try simp only [QQ,Qax] at ac
  have hno:¬ ((k=9∧1<(b.getD k 0))∨(0<k∧(b.getD k 0)=0)):=by omega
  have h9:k=9→(b.getD k 0)≤1:=by omega
  obtain⟨v,hv⟩:∃ v,u+((b.getD k 0) % 128).toNat*2 ^ (7*k)=v:=⟨_,rfl⟩
  refine gz hK5 U (.sk<|.sk<|.pickFZ rfl rfl<|.pickF rfl rfl<|.nil) fun Y U=>wcf U<|zss (hK4 _ _ ?_)
  replace U:=U.oz [0,4,10,11,12,5,6,19,23,26,30]
  refine hC U (.move rfl<|.move rfl<|.c rfl (fun _ h_=>lz h_ rfl rfl (r:=(b.getD k 0) % 128) (kX _ hxb.1 hxb.2))<|.conv rfl U5 jV (r:=(b.getD k 0) % 128) (IntWalk.u64_in _ (by omega))<|.move rfl<|.mul rfl rfl (r:=7*(k:Int)) (IntWalk.i64_in _ (by omega))<|.shl rfl rfl (by omega) (r:=IntKind.u64.wrap ((b.getD k 0) % 128*2 ^ (7*k))) (by rw[shx hk9])<|.or rfl rfl (r:=(v:Int)) (by rw[← hv];exact kx u k (b.getD k 0) hu hk9 hxb.1 hxb.2 h9)<|.assign rfl .nil) fun Y U =>?_
  replace U:=U.oz [0,4,10,11,12,5,6,19,23,26,30]
  refine hC U (.move rfl<|.lss rfl rfl .nil) fun Y U=>bc U 40 ?_ ?_
  ·
   intro ag U;try simp only [QQ,Qax] at ag
   have hO:dec 0 0 b=.ok v (k+1):=by rw[← hD,if_neg hno,if_pos (by omega),hv]
   refine wct U<|zsr fun K9 hK9=>g9 U (.move rfl<|.move rfl<|.nilCheck rfl<|.fa 0 rfl l7<|.lb aa 1 U22 rfl rfl rfl<|.move rfl<|.inc (k+1) .nil) fun Y U =>?_
   have ax:=aa.dropN (i:=2) rfl (k+1) (show k+1≤b.length by omega) 101 rfl
   refine g9 U (.c rfl (fun _ h_=>iK h_ (k+1) rfl rfl U22 jw rfl (show k+1≤b.length by omega))<|.nilCheck rfl<|.fa 0 rfl l7 .nil) fun Y U=>plz (st1 U ax 1 nZ fun aD ar _ =>?_)
   refine znl (hK9 _ _ ?_)
   replace U:=U.oz [0,4,10,11,12,19,23,26,30,40]
   refine hC U (.move rfl<|.assign rfl<|.assign rfl .nil) fun Y U=>rt2 U ?_
   have hl9:b.length - (k+1)=(b.drop (k+1)).length:=by rw[List.length_drop]
   rw[hl9] at ar
   exact⟨v,_,_,b.drop (k+1),0,rfl,.inl ⟨_,hO,rfl,rfl⟩,ar.ren [(1,1),(2,101)] (by decide)⟩
  intro ag U;try simp only [QQ,Qax] at ag
  refine wcf U<|zss<|hK2 _ _<|wp_region_lit<|g9 U (.inc (k+1)<|.move rfl .nil) fun Y U=>wpList_nil ?_
  show ∃ n',n'<_∧_
  exact⟨b.length - (k+1),by omega,k+1,v,by omega,by omega,rfl,by rw[← hv];exact jv u k (b.getD k 0) hu,by rw[← hD,if_neg hno,if_neg (by omega),hv],U.only [0,4,10,11,12],aa.only [1,2]⟩
 intro ah U;try simp only [QQ,Qax] at ah
 revert U
 obtain rfl:k=b.length:=by omega
 intro U
 have hE:dec 0 0 b=.err 21:=by rw[← hD0,List.drop_length];rfl
 refine wcf U<|wp_exit<|hK0 _ _<|hC U (.assign rfl<|.assign rfl .nil) fun Y U=>rt2 U ?_
 exact⟨0,_,_,b,_,rfl,.inr ⟨hE,rfl,rfl⟩,ay.ren [(1,1),(2,2)] (by decide)⟩
theorem mG(X B)(b:List Int)(er p)(c:Nat)(w0)(n j:Nat)(hb:b.length≤1000000)(hbb:BytesL b)(hd:dec 0 0 b=.ok n j)(m0:MemOk X w0 [(1,.box B 148 [.slice p (b).length c,.int .i64 er]),(2,.dat (.slice p (b).length c) (.ns .u8 (b)))] w0) :
   Calls Tryz.prog 106 #[.pointer (some ⟨B,0,none⟩)] w0 fun e w' => ∃ (p':Option Addr) (c':Nat),e=.returned (.tuple #[.int .u64 (n:Int),.int .i64 0])∧MemOk X w0 [(1,.box B 148 [.slice p' (b.drop j).length c',.int .i64 er]),(2,.dat (.slice p' (b.drop j).length c') (.ns .u8 (b.drop j)))] w':=by
 refine(nM X B b er p c w0 hb hbb m0).mono ?_
 rintro e w' ⟨n',p',c',r,e1,he,⟨j',h,rfl,rfl⟩|⟨h,_⟩,hm⟩
 · rw[hd] at h;injection h with q1 q2;subst q1;subst q2;exact⟨p',c',he,hm⟩
 rw[hd] at h;cases h
theorem oG(X B)(b:List Int)(er p)(c:Nat)(w0 er1)(hb:b.length≤1000000)(hbb:BytesL b)(hd:dec 0 0 b=.err er1)(m0:MemOk X w0 [(1,.box B 148 [.slice p (b).length c,.int .i64 er]),(2,.dat (.slice p (b).length c) (.ns .u8 (b)))] w0) :
   Calls Tryz.prog 106 #[.pointer (some ⟨B,0,none⟩)] w0 fun e w' => ∃ (p':Option Addr) (c':Nat),e=.returned (.tuple #[.int .u64 0,.int .i64 er1])∧MemOk X w0 [(1,.box B 148 [.slice p' (b).length c',.int .i64 er]),(2,.dat (.slice p' (b).length c') (.ns .u8 (b)))] w':=by
 refine(nM X B b er p c w0 hb hbb m0).mono ?_
 rintro e w' ⟨n',p',c',r,e1,he,⟨j',h,_⟩|⟨h,rfl,rfl⟩,hm⟩
 · rw[hd] at h;cases h
 rw[hd] at h;injection h with q1;subst q1;exact⟨p',c',he,hm⟩
theorem tF(X B)(b:List Int)(er mx p)(c:Nat)(w0)(hb:b.length≤1000000)(hbb:BytesL b)(he:er≠0)(m0:MemOk X w0 [(1,.box B 148 [.slice p (b).length c,.int .i64 er]),(2,.dat (.slice p (b).length c) (.ns .u8 (b)))] w0) :
   Calls Tryz.prog 60 #[.pointer (some ⟨B,0,none⟩),.int .u64 mx] w0 fun e w' => ∃ (p':Option Addr) (c':Nat),e=.returned (.int .u64 (i3 b er mx).1)∧MemOk X w0 [(1,.box B 148 [.slice p' ((i3 b er mx).2.1).length c',.int .i64 (i3 b er mx).2.2]),(2,.dat (.slice p' ((i3 b er mx).2.1).length c') (.ns .u8 ((i3 b er mx).2.1)))] w':=by
 have hN:i3 b er mx=(0,b,er):=nm b er mx he
 refine iZ Tryz.func60 rfl Tryz.ntmps60 fun Y U=>hC U (.assign rfl .nil) fun Y U=>wsk fun K0 hK0=>hC U (.move rfl<|.nilCheck rfl<|.fieldAddr (off:=0) rfl nU rfl (s:=1) (by kernel_rfl) rfl<|.fa 1 rfl l7<|.lb m0 1 U42 rfl rfl rfl<|.neq rfl rfl .nil) fun Y U=>bcP U 12 fun U=>wct U ?_
 replace U:=U.oz [0,1,4]
 refine hC U (.assign rfl .nil) fun Y U=>rt1 U ?_
 rw[hN]
 exact⟨_,_,rfl,m0.ren [(1,1),(2,2)] (by decide)⟩
theorem tG(X B)(b:List Int)(mx p)(c:Nat)(w0)(hb:b.length≤1000000)(hbb:BytesL b)(er1:Int)(hd:dec 0 0 b=.err er1)(m0:MemOk X w0 [(1,.box B 148 [.slice p (b).length c,.int .i64 0]),(2,.dat (.slice p (b).length c) (.ns .u8 (b)))] w0) :
   Calls Tryz.prog 60 #[.pointer (some ⟨B,0,none⟩),.int .u64 mx] w0 fun e w' => ∃ (p':Option Addr) (c':Nat),e=.returned (.int .u64 (i3 b 0 mx).1)∧MemOk X w0 [(1,.box B 148 [.slice p' ((i3 b 0 mx).2.1).length c',.int .i64 (i3 b 0 mx).2.2]),(2,.dat (.slice p' ((i3 b 0 mx).2.1).length c') (.ns .u8 ((i3 b 0 mx).2.1)))] w':=by
 have hN:i3 b 0 mx=(0,[],er1):=kr mx hd
 have he1:er1=20∨er1=21:=oF b 0 0 er1 hd
 refine iZ Tryz.func60 rfl Tryz.ntmps60 fun Y U=>hC U (.assign rfl .nil) fun Y U=>wsk fun K0 hK0=>hC U (.move rfl<|.nilCheck rfl<|.fieldAddr (off:=0) rfl nU rfl (s:=1) (by kernel_rfl) rfl<|.fa 1 rfl l7<|.lb m0 1 U42 rfl rfl rfl<|.neq rfl rfl .nil) fun Y U=>bcF U 12 fun U=>wcf U<|zss (hK0 _ _ ?_)
 replace U:=U.oz [0,1,4]
 refine zsr fun K1 hK1=>g9 U (.move rfl<|.nilCheck rfl<|.fieldAddr (off:=0) rfl nU rfl (s:=1) (by kernel_rfl) rfl .nil) fun Y U=>plz (ecl U Tryz.func106 rfl (oG _ _ _ _ _ _ _ _ hb hbb hd (m0.into [(1,1),(2,2)] (by decide) rfl)) ?_)
 rintro e ai ⟨aj,ak,rfl,aa⟩
 have ac:=m0.back aa [(1,1),(2,2)] (by decide);clear aa m0
 have ad:=ac.oz [1,2]
 refine⟨_,rfl,?_⟩;intro Y U
 refine gz hK1 U (.move rfl<|.extract rfl rfl<|.extract rfl rfl<|.assign rfl<|.assign rfl<|.nil) fun Y U=>wsk fun K2 hK2 =>?_
 replace U:=U.oz [0,1,4,5,6]
 refine zsr fun K3 hK3=>g9 U (.move rfl<|.eql rfl rfl<|.move rfl .nil) fun Y U=>bcO U 22 fun U=>gz hK3 U (.sk<|.sk<|.sk<|.pickF rfl rfl<|.nil) fun Y U=>wcf U<|zss<|hK2 _ _<|wsk fun K4 hK4 =>?_
 replace U:=U.oz [0,4,5,6]
 refine hC U (.move rfl<|.neq rfl rfl .nil) fun Y U=>bcP U 28 fun U=>wct U<|zsr fun K5 hK5=>g9 U (.move rfl<|.nilCheck rfl<|.fieldAddr (off:=0) rfl nU rfl (s:=1) (by kernel_rfl) rfl<|.move rfl .nil) fun Y U=>plz (ecl U Tryz.func107 rfl (oC _ _ _ _ _ _ (ad.into [(1,1)] (by decide) rfl)) ?_)
 rintro e al ⟨rfl,ab⟩
 have ae:=ad.back ab [(1,1)] (by decide);clear ab ad
 have ag:=ae.oz [1,2]
 refine⟨_,rfl,?_⟩;intro Y U
 refine znl (hK5 _ _ ?_)
 replace U:=U.oz [4,5]
 refine hC U (.assign rfl .nil) fun Y U=>rt1 U ?_
 have ah:=ag.dat 90 rfl (Rd.nilN _ _ .u8 none)
 rw[hN]
 exact⟨_,_,rfl,ah.ren [(1,1),(2,90)] (by decide)⟩
theorem rN(X:Cx)(B:Nat)(b:List Int)(mx:Int)(p:Option Addr)(c:Nat)(w0:World)(hb:b.length≤1000000)(hbb:BytesL b)(n j:Nat)(hd:dec 0 0 b=.ok n j)(hl:mx<n)(m0:MemOk X w0 [(1,.box B 148 [.slice p (b).length c,.int .i64 0]),(2,.dat (.slice p (b).length c) (.ns .u8 (b)))] w0) :
   Calls Tryz.prog 60 #[.pointer (some ⟨B,0,none⟩),.int .u64 mx] w0 fun e w' => ∃ (p':Option Addr) (c':Nat),e=.returned (.int .u64 (i3 b 0 mx).1)∧MemOk X w0 [(1,.box B 148 [.slice p' ((i3 b 0 mx).2.1).length c',.int .i64 (i3 b 0 mx).2.2]),(2,.dat (.slice p' ((i3 b 0 mx).2.1).length c') (.ns .u8 ((i3 b 0 mx).2.1)))] w':=by
 have hN:i3 b 0 mx=(0,[],22):=by rw[jk mx hd,if_pos hl]
 refine iZ Tryz.func60 rfl Tryz.ntmps60 fun Y U=>hC U (.assign rfl .nil) fun Y U=>wsk fun K0 hK0=>hC U (.move rfl<|.nilCheck rfl<|.fieldAddr (off:=0) rfl nU rfl (s:=1) (by kernel_rfl) rfl<|.fa 1 rfl l7<|.lb m0 1 U42 rfl rfl rfl<|.neq rfl rfl .nil) fun Y U=>bcF U 12 fun U=>wcf U<|zss (hK0 _ _ ?_)
 replace U:=U.oz [0,1,4]
 refine zsr fun K1 hK1=>g9 U (.move rfl<|.nilCheck rfl<|.fieldAddr (off:=0) rfl nU rfl (s:=1) (by kernel_rfl) rfl .nil) fun Y U=>plz (ecl U Tryz.func106 rfl (mG _ _ _ _ _ _ _ _ _ hb hbb hd (m0.into [(1,1),(2,2)] (by decide) rfl)) ?_)
 rintro e ai ⟨aj,ak,rfl,aa⟩
 have ac:=m0.back aa [(1,1),(2,2)] (by decide);clear aa m0
 have ad:=ac.oz [1,2]
 refine⟨_,rfl,?_⟩;intro Y U
 refine gz hK1 U (.move rfl<|.extract rfl rfl<|.extract rfl rfl<|.assign rfl<|.assign rfl<|.nil) fun Y U=>wsk fun K2 hK2 =>?_
 replace U:=U.oz [0,1,4,5,6]
 refine zsr fun K3 hK3=>g9 U (.move rfl<|.eql rfl rfl<|.move rfl .nil) fun Y U=>bcT U 22 fun U=>gz hK3 U (.moveZ rfl<|.moveZ rfl<|.gtrZ rfl rfl<|.pickT rfl rfl<|.nil) fun Y U=>bcP U 26 fun U=>wct U ?_
 replace U:=U.oz [0,4,5,6]
 refine wp_region_lit<|gz hK2 U (.assign rfl .nil) fun Y U=>wsk fun K4 hK4=>hC U (.move rfl<|.neq rfl rfl .nil) fun Y U=>bcT U 28 fun U=>wct U<|zsr fun K5 hK5=>g9 U (.move rfl<|.nilCheck rfl<|.fieldAddr (off:=0) rfl nU rfl (s:=1) (by kernel_rfl) rfl<|.move rfl .nil) fun Y U=>plz (ecl U Tryz.func107 rfl (oC _ _ _ _ _ _ (ad.into [(1,1)] (by decide) rfl)) ?_)
 rintro e al ⟨rfl,ab⟩
 have ae:=ad.back ab [(1,1)] (by decide);clear ab ad
 have ag:=ae.oz [1,2]
 refine⟨_,rfl,?_⟩;intro Y U
 refine znl (hK5 _ _ ?_)
 replace U:=U.oz [4,5]
 refine hC U (.assign rfl .nil) fun Y U=>rt1 U ?_
 have ah:=ag.dat 90 rfl (Rd.nilN _ _ .u8 none)
 rw[hN]
 exact⟨_,_,rfl,ah.ren [(1,1),(2,90)] (by decide)⟩
theorem wi(X B)(b:List Int)(mx p)(c:Nat)(w0)(hb:b.length≤1000000)(hbb:BytesL b)(n j:Nat)(hd:dec 0 0 b=.ok n j)(hl:(n:Int)≤mx)(m0:MemOk X w0 [(1,.box B 148 [.slice p (b).length c,.int .i64 0]),(2,.dat (.slice p (b).length c) (.ns .u8 (b)))] w0) :
   Calls Tryz.prog 60 #[.pointer (some ⟨B,0,none⟩),.int .u64 mx] w0 fun e w' => ∃ (p':Option Addr) (c':Nat),e=.returned (.int .u64 (i3 b 0 mx).1)∧MemOk X w0 [(1,.box B 148 [.slice p' ((i3 b 0 mx).2.1).length c',.int .i64 (i3 b 0 mx).2.2]),(2,.dat (.slice p' ((i3 b 0 mx).2.1).length c') (.ns .u8 ((i3 b 0 mx).2.1)))] w':=by
 have hN:i3 b 0 mx=((n:Int),b.drop j,0):=by rw[jk mx hd,if_neg (by omega)]
 refine iZ Tryz.func60 rfl Tryz.ntmps60 fun Y U=>hC U (.assign rfl .nil) fun Y U=>wsk fun K0 hK0=>hC U (.move rfl<|.nilCheck rfl<|.fieldAddr (off:=0) rfl nU rfl (s:=1) (by kernel_rfl) rfl<|.fa 1 rfl l7<|.lb m0 1 U42 rfl rfl rfl<|.neq rfl rfl .nil) fun Y U=>bcF U 12 fun U=>wcf U<|zss (hK0 _ _ ?_)
 replace U:=U.oz [0,1,4]
 refine zsr fun K1 hK1=>g9 U (.move rfl<|.nilCheck rfl<|.fieldAddr (off:=0) rfl nU rfl (s:=1) (by kernel_rfl) rfl .nil) fun Y U=>plz (ecl U Tryz.func106 rfl (mG _ _ _ _ _ _ _ _ _ hb hbb hd (m0.into [(1,1),(2,2)] (by decide) rfl)) ?_)
 rintro e ad ⟨ae,ag,rfl,aa⟩
 have ab:=m0.back aa [(1,1),(2,2)] (by decide);clear aa m0
 have ac:=ab.oz [1,2]
 refine⟨_,rfl,?_⟩;intro Y U
 refine gz hK1 U (.move rfl<|.extract rfl rfl<|.extract rfl rfl<|.assign rfl<|.assign rfl<|.nil) fun Y U=>wsk fun K2 hK2 =>?_
 replace U:=U.oz [0,1,4,5,6]
 refine zsr fun K3 hK3=>g9 U (.move rfl<|.eql rfl rfl<|.move rfl .nil) fun Y U=>bcT U 22 fun U=>gz hK3 U (.moveZ rfl<|.moveZ rfl<|.gtrZ rfl rfl<|.pickT rfl rfl<|.nil) fun Y U=>bcO U 26 fun U=>wcf U<|zss<|hK2 _ _<|wsk fun K4 hK4 =>?_
 replace U:=U.oz [0,4,5,6]
 refine hC U (.move rfl<|.neq rfl rfl .nil) fun Y U=>bcF U 28 fun U=>wcf U<|zss<|hK4 _ _<|hC U (.move rfl<|.assign rfl .nil) fun Y U=>rt1 U ?_
 rw[hN]
 exact⟨_,_,rfl,ac.ren [(1,1),(2,2)] (by decide)⟩
theorem q6(X:Cx)(B:Nat)(b:List Int)(er mx:Int)(p:Option Addr)(c:Nat)(w0:World)(hb:b.length≤1000000)(hbb:BytesL b)(m0:MemOk X w0 [(1,.box B 148 [.slice p (b).length c,.int .i64 er]),(2,.dat (.slice p (b).length c) (.ns .u8 (b)))] w0) :
   Calls Tryz.prog 60 #[.pointer (some ⟨B,0,none⟩),.int .u64 mx] w0 fun e w' => ∃ (p':Option Addr) (c':Nat),e=.returned (.int .u64 (i3 b er mx).1)∧MemOk X w0 [(1,.box B 148 [.slice p' ((i3 b er mx).2.1).length c',.int .i64 (i3 b er mx).2.2]),(2,.dat (.slice p' ((i3 b er mx).2.1).length c') (.ns .u8 ((i3 b er mx).2.1)))] w':=by
 by_cases he:er=0
 · subst he
   cases hd:dec 0 0 b with
   | err er1=>exact tG X B b mx p c w0 hb hbb er1 hd m0
   | ok n j =>
     by_cases hl:mx<n
     · exact rN X B b mx p c w0 hb hbb n j hd hl m0
     exact wi X B b mx p c w0 hb hbb n j hd (by omega) m0
 exact tF X B b er mx p c w0 hb hbb he m0
end
section
theorem tj:iO Tryz.prog 146 [.slice none 0 0,.int .i64 0]=true:=by kernel_rfl
theorem tk:lC Tryz.prog 148=some [(0,2)]:=by kernel_rfl
theorem tm{x:Int}(rest){mx:Int}(h0:0≤x)(h1:x≤mx)(h2:mx≤18446744073709551615):i3 (enc x++rest) 0 mx=(x,rest,0):=rC x h0 (by omega) rest mx h1
theorem xA{a b d:List Int}(h:d=a++b)(hd:d.length≤1000000):b.length≤1000000:=by rw[h,List.length_append] at hd;omega
theorem rm(X)(b:List Int)(p)(c:Nat)(w0)(hb:b.length≤1000000)(m0:MemOk X w0 [(1,.dat (.slice p b.length c) (.ns .u8 b))] w0) :
   Calls Tryz.prog 59 #[.slice p b.length c] w0 fun e w' => ∃ (B:Nat) (p':Option Addr) (c':Nat),e=.returned (.pointer (some ⟨B,0,none⟩))∧MemOk X w0 [(1,.box B 148 [.slice p' (b).length c',.int .i64 0]),(2,.dat (.slice p' (b).length c') (.ns .u8 (b))),(3,.dat (.slice p b.length c) (.ns .u8 b))] w':=by
 refine i9 Tryz.func59 rfl Tryz.ntmps59 fun Y U=>hC U (.assign rfl .nil) fun Y U=>zsr fun K0 hK0=>g9 U (.move rfl .nil) fun Y U=>plz (iN U m0 20 (mm:=1) rfl (.cons rfl rfl (.cons (m0.rd (i:=1) rfl) .nil) .nil) U23 mS rfl rfl rfl rfl rfl fun g4 Y w5 U m5 =>?_)
 have m6:=m5.freezeR 20 rfl
 refine plz<|ecn U Tryz.func68 rfl m6 21 (j5 (ls:=[b]) (S:=b) ((m6.rd (i:=20) rfl).any) (by simp) (by simp [i4];omega) (by simp)) fun p7 c7 Y w7 U m8=>g9 U (.build rfl yD tj rfl (by dsimp only [iY,List.set] <;> rfl)<|.buildG rfl yE tk rfl .nil) fun Y U=>plz<|iu U m8 22 (cs:=[_,_]) rfl rfl rfl fun ac Y ad U aa _ _=>gz hK0 U (.assign rfl .nil) fun Y U=>rt1 U ?_
 have ab:=aa.freezeN 21 rfl
 exact⟨_,_,_,rfl,ab.ren [(1,22),(2,21),(3,1)] (by decide)⟩
theorem lQ(X B)(b:List Int)(er p)(c:Nat)(w0)(m0:MemOk X w0 [(1,.box B 148 [.slice p (b).length c,.int .i64 er]),(2,.dat (.slice p (b).length c) (.ns .u8 (b)))] w0) :
   Calls Tryz.prog 62 #[.pointer (some ⟨B,0,none⟩)] w0 fun e w'=>e=.returned (.int .i64 er)∧MemOk X w0 [(1,.box B 148 [.slice p (b).length c,.int .i64 er]),(2,.dat (.slice p (b).length c) (.ns .u8 (b)))] w':=by
 refine i9 Tryz.func62 rfl Tryz.ntmps62 fun Y U=>hC U (.assign rfl .nil) fun Y U=>hC U (.move rfl<|.nilCheck rfl<|.fieldAddr (off:=0) rfl nU rfl (s:=1) (by kernel_rfl) rfl<|.fa 1 rfl l7<|.lb m0 1 U42 rfl rfl rfl<|.assign rfl .nil) fun Y U=>rt1 U ?_
 exact⟨rfl,m0.only [1,2]⟩
theorem vn(X B)(b:List Int)(mx p)(c:Nat)(w0 x rest)(hb:b.length≤1000000)(hbb:BytesL b)(hbe:b=enc x++rest)(hmx:mx≤18446744073709551615)(hx:0≤x∧x≤mx)(m0:MemOk X w0 [(1,.box B 148 [.slice p (b).length c,.int .i64 0]),(2,.dat (.slice p (b).length c) (.ns .u8 (b)))] w0) :
   Calls Tryz.prog 60 #[.pointer (some ⟨B,0,none⟩),.int .u64 mx] w0 fun e w' => ∃ (p':Option Addr) (c':Nat),e=.returned (.int .u64 x)∧MemOk X w0 [(1,.box B 148 [.slice p' (rest).length c',.int .i64 0]),(2,.dat (.slice p' (rest).length c') (.ns .u8 (rest)))] w':=by
 have hN:i3 b 0 mx=(x,rest,0):=by rw[hbe];exact tm rest hx.1 hx.2 hmx
 have h:=q6 X B b 0 mx p c w0 hb hbb m0
 rw[hN] at h
 exact h
end
end Go.Proofs.YtkehgingagggaaaGreat.K
