/- General laws of walks. -/
import Derived.Test.YtkehgingagggaaaGreatG12
import Derived.Test.YtkehgingagggaaaGreatG14
import Derived.Test.YtkehgingagggaaaGreatG11
import Derived.Test.YtkehgingagggaaaGreatG6
import Derived.Laws.StructEq
import Derived.ChangeKeysEq
namespace Go.Proofs.YtkehgingagggaaaGreat.K
open Go.ChangeShapes Go.WideShapes Go.ChangeAt Go.RowKit
set_option linter.unusedVariables false
set_option linter.unusedSimpArgs false
set_option maxRecDepth 100000
set_option maxHeartbeats 4000000
set_option autoImplicit true
set_option relaxedAutoImplicit true
section
structure CmdOk (kd vo bl sz pe to at0 ix:Int) (place:List Int) (items:List (Int×List Int)):Prop where
 kd:1≤kd∧kd≤8
 vo:0≤vo∧vo≤7
 t40:(0≤bl∧bl≤1099511627776)∧(0≤sz∧sz≤1099511627776)∧(0≤pe∧pe≤1099511627776)∧(0≤to∧to≤1099511627776)∧(0≤at0∧at0≤1099511627776)∧(0≤ix∧ix≤1099511627776)
 pl:place.length≤256
 pb:∀ k,k<place.length→0≤place.getD k 0∧place.getD k 0≤7
 il:items.length≤8
 ib:∀ e∈items,(0≤e.1∧e.1≤255)∧e.2.length≤32
 by8:∀ e∈items,BytesL e.2
def mh(kd vo bl sz pe to at0 ix:Int)(place:List Int)(items:List (Int×List Int)):List Int:=im [kd,vo,bl,sz,pe,to,at0,ix]++(im ((place.length:Int) :: place)++(enc items.length++ir items))
theorem l63{l:List Int}(h:∀ x∈l,0≤x∧x≤9223372036854775807):∀ k,k<l.length→0≤l.getD k 0∧l.getD k 0≤9223372036854775807:=fun k hk=>by
 rw[List.getD,List.getElem?_eq_getElem hk];exact h _ (List.getElem_mem hk)
theorem i7{a b:List Int}(ha:BytesL a)(hb:BytesL b):BytesL (a++b):=fun x hx=>(List.mem_append.1 hx).elim (ha x) (hb x)
theorem iS(h:∀ x∈l,x≤18446744073709551615):BytesL (im l):=fun x hx=>by
 obtain⟨y,hy,hxy⟩:=List.mem_flatMap.1 hx
 exact kY y (h y hy) x hxy
theorem lO(h:∀ e∈es,e.1≤18446744073709551615∧e.2.length≤1000∧BytesL e.2):BytesL (ir es):=fun x hx=>by
 obtain⟨y,hy,hxy⟩:=List.mem_flatMap.1 hx
 obtain⟨h1,h2,h3⟩:=h y hy
 rcases List.mem_append.1 hxy with h4|h4
 · exact kY _ h1 x h4
 rcases List.mem_append.1 h4 with h5|h5
 · exact kY _ (by omega) x h5
 exact h3 x h5
section
variable {kd vo bl sz pe to at0 ix:Int} {place:List Int} {items:List (Int×List Int)}
theorem CmdOk.n63(hc:CmdOk kd vo bl sz pe to at0 ix place items):∀ k,k < [kd,vo,bl,sz,pe,to,at0,ix].length→0≤[kd,vo,bl,sz,pe,to,at0,ix].getD k 0∧[kd,vo,bl,sz,pe,to,at0,ix].getD k 0≤9223372036854775807:=l63 (fun x hx=>by
 have h1:=hc.kd;have h2:=hc.vo;have h3:=hc.t40
 simp only [List.mem_cons,List.not_mem_nil,or_false] at hx
 omega)
theorem CmdOk.lens(hc:CmdOk kd vo bl sz pe to at0 ix place items):(im [kd,vo,bl,sz,pe,to,at0,ix]).length≤80∧(im ((place.length:Int) :: place)).length≤2570∧(enc items.length++ir items).length≤8170:=by
 have h1:=ic [kd,vo,bl,sz,pe,to,at0,ix]
 have h2:=ic ((place.length:Int) :: place)
 have h3:=(i1 items.length).1
 have h4:=lh items (fun e he=>by have:=hc.ib e he;omega)
 have h5:=hc.pl;have h6:=hc.il
 simp only [List.length_cons,List.length_nil,List.length_append] at *
 omega
theorem CmdOk.len(hc:CmdOk kd vo bl sz pe to at0 ix place items):(mh kd vo bl sz pe to at0 ix place items).length≤20000:=by
 have:=hc.lens
 simp only [mh,List.length_append] at *
 omega
theorem CmdOk.bytes(hc:CmdOk kd vo bl sz pe to at0 ix place items):BytesL (mh kd vo bl sz pe to at0 ix place items):=by
 have h1:=hc.kd;have h2:=hc.vo;have h3:=hc.t40;have h4:=hc.pl;have h5:=hc.il
 refine i7 (iS fun x hx =>?_) (i7 (iS fun x hx =>?_) (i7 (fun x hx=>kY _ (by omega) x hx) (lO fun e he =>?_)))
 · simp only [List.mem_cons,List.not_mem_nil,or_false] at hx;omega
 · rcases List.mem_cons.1 hx with rfl|hx
   · omega
   obtain⟨k,hk,rfl⟩:=List.getElem_of_mem hx
   have:=hc.pb k hk
   rw[List.getD,List.getElem?_eq_getElem hk] at this
   simp only [Option.getD_some] at this
   omega
 have:=hc.ib e he;exact⟨by omega,by omega,hc.by8 e he⟩
end
theorem ky(n)(w0:World)(h:0≤n∧n≤1099511627776):Calls Tryz.prog 72 #[.int .i64 n] w0 fun e w'=>e=.returned (.bool true)∧Below w0.heap.size w0 w':=by
 refine i9 Tryz.func72 rfl Tryz.ntmps72 fun Y U =>?_
 have m0:=MemOk.start (fun _=>False) w0
 refine hC U (.assign rfl .nil) fun Y U=>zsr fun K0 hK0=>g9 U (.move rfl<|.geq rfl rfl<|.move rfl .nil) fun Y U=>bcP U 5 fun U=>gz hK0 U (.moveZ rfl<|.leqZ rfl rfl<|.pickT rfl rfl<|.assign rfl<|.nil) fun Y U=>rt1 U ?_
 exact⟨by simp;omega,m0.below⟩
theorem tI(kd vo bl sz pe to at0 ix:Int)(place:List Int)(items:List (Int×List Int))(pp pi)(cp ni ci:Nat)(w0:World)(h0:Rd (fun _=>True) w0 (.slice pp place.length cp) (.ns .i64 place))(h1:Rd (fun _=>True) w0 (.slice pi ni ci) (.l 2 (items.map itD)))(hc:CmdOk kd vo bl sz pe to at0 ix place items) :
   Calls Tryz.prog 27 #[.agg #[.int .i64 kd,.int .i64 vo,.int .i64 bl,.int .i64 sz,.int .i64 pe,.slice pp place.length cp,.int .i64 to,.int .i64 at0,.int .i64 ix,.slice pi ni ci]] w0 fun e w'=>e=.returned (.bool true)∧Below w0.heap.size w0 w':=by
 obtain rfl:ni=items.length:=by obtain⟨pq,c9,hv,_⟩:=h1.l_shape;injection hv with _ e2 _;rw[List.length_map] at e2;exact e2
 obtain⟨hkd,hvo,a7,hpl,hpb,hil,hok,-⟩:=hc
 refine i9 Tryz.func27 rfl Tryz.ntmps27 fun Y U =>?_
 have m0:=MemOk.start (fun _=>False) w0
 refine zsr fun K0 hK0=>plz<|iu U m0 20 (cs:=[_,_,_,_,_,_,_,_,_,_]) rfl rfl rfl fun g1 Y w2 U m2 _ _=>gz hK0 U (.assign rfl .nil) fun Y U=>wsk fun K1 hK1=>zsr fun K2 hK2=>g9 U (.fa 0 rfl U38<|.lb m2 20 U3 rfl rfl rfl<|.lss rfl rfl<|.move rfl .nil) fun Y U=>bcO U 8 fun U=>g9 U (.faZ 0 rfl U38<|.loadB1Z m2 (i:=20) rfl rfl rfl U3 rfl<|.gtrZ rfl rfl<|.pickF rfl rfl<|.move rfl .nil) fun Y U=>bcO U 13 fun U=>g9 U (.faZ 1 rfl U38<|.loadB1Z m2 (i:=20) rfl rfl rfl U3 rfl<|.lssZ rfl rfl<|.pickF rfl rfl<|.move rfl .nil) fun Y U=>bcO U 18 fun U=>g9 U (.faZ 1 rfl U38<|.loadB1Z m2 (i:=20) rfl rfl rfl U3 rfl<|.geqZ rfl rfl<|.pickF rfl rfl<|.move rfl .nil) fun Y U=>bcO U 23 fun U=>g9 U (.faZ 2 rfl U38<|.loadB1Z m2 (i:=20) rfl rfl rfl U3 rfl .nil) fun Y U=>stz U (ecb U Tryz.func72 rfl m2 (ky _ _ (by omega)) fun Y bg U aH =>?_)
 refine g9 U (.notZ rfl<|.pickF rfl rfl<|.move rfl<|.faZ 3 rfl U38<|.loadB1Z aH (i:=20) rfl rfl rfl U3 rfl .nil) fun Y U=>stz U (ecb U Tryz.func72 rfl aH (ky _ _ (by omega)) fun Y bh U aI =>?_)
 refine g9 U (.notZ rfl<|.pickF rfl rfl<|.move rfl<|.faZ 4 rfl U38<|.loadB1Z aI (i:=20) rfl rfl rfl U3 rfl .nil) fun Y U=>stz U (ecb U Tryz.func72 rfl aI (ky _ _ (by omega)) fun Y bi U aJ =>?_)
 refine g9 U (.notZ rfl<|.pickF rfl rfl<|.move rfl<|.faZ 6 rfl U38<|.loadB1Z aJ (i:=20) rfl rfl rfl U3 rfl .nil) fun Y U=>stz U (ecb U Tryz.func72 rfl aJ (ky _ _ (by omega)) fun Y bj U aK =>?_)
 refine g9 U (.notZ rfl<|.pickF rfl rfl<|.move rfl<|.faZ 8 rfl U38<|.loadB1Z aK (i:=20) rfl rfl rfl U3 rfl .nil) fun Y U=>stz U (ecb U Tryz.func72 rfl aK (ky _ _ (by omega)) fun Y bk U aL =>?_)
 refine g9 U (.notZ rfl<|.pickF rfl rfl<|.move rfl<|.faZ 7 rfl U38<|.loadB1Z aL (i:=20) rfl rfl rfl U2 rfl .nil) fun Y U=>stz U (ecb U Tryz.func72 rfl aL (ky _ _ (by omega)) fun Y bm U aF =>?_)
 refine g9 U (.notZ rfl<|.pickF rfl rfl<|.move rfl<|.faZ 5 rfl U38<|.loadB1Z aF (i:=20) rfl rfl rfl U35 rfl<|.lenZ rfl U35<|.gtrZ rfl rfl<|.pickF rfl rfl<|.move rfl .nil) fun Y U=>bcO U 65 fun U=>gz hK2 U (.faZ 9 rfl U38<|.loadB1Z aF (i:=20) rfl rfl rfl U36 rfl<|.lenZ rfl U36<|.gtrZ rfl rfl<|.pickF rfl rfl<|.nil) fun Y U=>bcO U 70 fun U=>wcf U<|zss<|hK1 _ _<|wsk fun K3 hK3 =>?_
 replace U:=U.oz [1,2]
 refine hC U (.assign rfl .nil) fun Y U=>wp_block<|wp_loop_ghost (fun g a w => ∃ (k B:Nat),k≤place.length∧g=place.length - k∧Has 125 [(1,.pointer (some ⟨B,0,none⟩)),(3,.int .i64 k)] a∧MemOk (cn w0) w0 [(9,.box B 38 [.int .i64 kd,.int .i64 vo,.int .i64 bl,.int .i64 sz,.int .i64 pe,.slice pp place.length cp,.int .i64 to,.int .i64 at0,.int .i64 ix,.slice pi items.length ci])] w) (place.length) ?_ ?_
 · exact⟨0,_,Nat.zero_le _,rfl,U.only [1,3],aF.ren [(9,20)] (by decide)⟩
 clear U aF
 rintro g Y bn ⟨k,B,hkl,hg,U,ak⟩
 refine wsk fun K4 hK4=>hC U (.move rfl<|.fa 5 rfl U38<|.lb ak 9 U35 rfl rfl rfl<|.len rfl U35<|.lss rfl rfl .nil) fun Y U=>bc U 75 ?_ ?_
 ·
  intro ae U;try simp only [QQ,Qax] at ae
  have hk:k<place.length:=by omega
  have hpk:=hpb k hk
  refine wct U<|zss<|hK4 _ _<|wsk fun K5 hK5=>wp_block<|zsr fun K6 hK6=>g9 U (.fa 5 rfl U38<|.lb ak 9 U35 rfl rfl rfl<|.move rfl .nil) fun Y U =>?_
  obtain⟨aM,aN,au,aO,al⟩:=h0.extN (k) hk
  revert U
  cases au
  intro U
  refine g9 U (.c rfl (fun _ h_=>ii h_ rfl rfl U35 iG (k) rfl hk)<|.loadAt1 (al ak rfl) (q:=0) rfl rfl rfl U3 rfl<|.lss rfl rfl<|.move rfl .nil) fun Y U=>bc U 84 ?_ ?_
  · intro hb _;exact absurd hb (by rw[decide_eq_true_eq];omega)
  clear U;intro _ U
  refine g9 U (.faZ 5 rfl U38<|.loadB1Z ak (i:=9) rfl rfl rfl U35 rfl<|.moveZ rfl .nil) fun Y U =>?_
  obtain⟨aP,aQ,av,aR,ao⟩:=h0.extN (k) hk
  revert U
  cases av
  intro U
  refine gz hK6 U (.g rfl rfl rfl rfl (fun _ h_=>ii h_ rfl rfl U35 iG (k) rfl hk)<|.loadAt1Z (ao ak rfl) (q:=0) rfl rfl rfl U3 rfl<|.geqZ rfl rfl<|.pickF rfl rfl<|.nil) fun Y U=>bc U 91 ?_ ?_
  · intro hb _;exact absurd hb (by rw[decide_eq_true_eq];omega)
  clear U;intro _ U
  refine wcf U<|zss (hK5 _ _ ?_)
  replace U:=U.oz [1,3]
  refine wp_region_lit<|g9 U (.move rfl<|.inc (k+1)<|.assign rfl .nil) fun Y U=>wpList_nil ?_
  show ∃ n',n'<_∧_
  exact⟨place.length - (k+1),by omega,k+1,_,by omega,rfl,U.only [1,3],ak.only [9]⟩
 intro ae U;try simp only [QQ,Qax] at ae
 refine wcf U<|wp_exit<|hK3 _ _<|wsk fun K7 hK7=>hC U (.assign rfl .nil) fun Y U=>wp_block<|wp_loop_ghost (fun g a w => ∃ (k B:Nat),k≤items.length∧g=items.length - k∧Has 125 [(1,.pointer (some ⟨B,0,none⟩)),(4,.int .i64 k)] a∧MemOk (cn w0) w0 [(9,.box B 38 [.int .i64 kd,.int .i64 vo,.int .i64 bl,.int .i64 sz,.int .i64 pe,.slice pp place.length cp,.int .i64 to,.int .i64 at0,.int .i64 ix,.slice pi items.length ci])] w) (items.length) ?_ ?_
 · exact⟨0,_,Nat.zero_le _,rfl,U.only [1,4],ak.ren [(9,9)] (by decide)⟩
 clear U ak
 rintro g Y a8 ⟨k,B,hkl,hg,U,aa⟩
 refine wsk fun K8 hK8=>hC U (.move rfl<|.fa 9 rfl U38<|.lb aa 9 U36 rfl rfl rfl<|.len rfl U36<|.lss rfl rfl .nil) fun Y U=>bc U 96 ?_ ?_
 ·
  intro ag U;try simp only [QQ,Qax] at ag
  have hk:k<items.length:=by omega
  obtain⟨⟨xb,xd⟩,hes⟩:∃ e,items[k]? = some e:=⟨_,List.getElem?_eq_getElem hk⟩
  have hed:=hok _ (List.mem_of_getElem? hes)
  dsimp only at hed
  refine wct U<|zss<|hK8 _ _<|wsk fun K9 hK9=>wp_block<|zsr fun bo aG=>g9 U (.fa 9 rfl U38<|.lb aa 9 U36 rfl rfl rfl<|.move rfl .nil) fun Y U =>?_
  obtain⟨aS,aT,aU,aw,aV,ax,ap⟩:=h1.extA (k) (r:=[.v (.int .i64 xb),.ns .u8 xd]) (iB hes)
  revert U
  cases aw
  rcases ax with _|⟨ab,_|⟨ah,_|_⟩⟩
  obtain rfl:=ab.v_out
  clear ab
  obtain⟨a9,ba,ay,aW⟩:=ah.ns_shape;subst ay
  intro U
  refine g9 U (.c rfl (fun _ h_=>ii h_ rfl rfl U36 jA (k) rfl hk)<|.fieldAddrQ 0 rfl U59 rfl (s:=0) (by kernel_rfl) rfl<|.loadAt1 (ap aa rfl) (q:=0) rfl rfl rfl U3 rfl<|.lss rfl rfl<|.move rfl .nil) fun Y U=>bcO U 106 fun U=>g9 U (.faZ 9 rfl U38<|.loadB1Z aa (i:=9) rfl rfl rfl U36 rfl<|.moveZ rfl .nil) fun Y U =>?_
  obtain⟨aX,aY,aZ,az,a0,aA,aq⟩:=h1.extA (k) (r:=[.v (.int .i64 xb),.ns .u8 xd]) (iB hes)
  revert U
  cases az
  rcases aA with _|⟨ac,_|⟨ai,_|_⟩⟩
  obtain rfl:=ac.v_out
  clear ac
  obtain⟨bb,bd,aB,a1⟩:=ai.ns_shape;subst aB
  intro U
  refine g9 U (.g rfl rfl rfl rfl (fun _ h_=>ii h_ rfl rfl U36 jA (k) rfl hk)<|.fieldAddrQZ 0 rfl U59 rfl (s:=0) (by kernel_rfl) rfl<|.loadAt1Z (aq aa rfl) (q:=0) rfl rfl rfl U3 rfl<|.geqZ rfl rfl<|.pickF rfl rfl<|.move rfl .nil) fun Y U=>bcO U 115 fun U=>g9 U (.faZ 9 rfl U38<|.loadB1Z aa (i:=9) rfl rfl rfl U36 rfl<|.moveZ rfl .nil) fun Y U =>?_
  obtain⟨a2,a3,a4,aC,a5,aD,ar⟩:=h1.extA (k) (r:=[.v (.int .i64 xb),.ns .u8 xd]) (iB hes)
  revert U
  cases aC
  rcases aD with _|⟨ad,_|⟨aj,_|_⟩⟩
  obtain rfl:=ad.v_out
  clear ad
  obtain⟨be,bf,aE,a6⟩:=aj.ns_shape;subst aE
  intro U
  refine gz aG U (.g rfl rfl rfl rfl (fun _ h_=>ii h_ rfl rfl U36 jA (k) rfl hk)<|.fieldAddrQZ 1 rfl U59 rfl (s:=0) (by kernel_rfl) rfl<|.loadAt1Z (ar aa rfl) (q:=1) rfl rfl rfl U22 rfl<|.lenZ rfl U22<|.gtrZ rfl rfl<|.pickF rfl rfl<|.nil) fun Y U=>bcO U 124 fun U=>wcf U<|zss (hK9 _ _ ?_)
  replace U:=U.oz [1,4]
  refine wp_region_lit<|g9 U (.move rfl<|.inc (k+1)<|.assign rfl .nil) fun Y U=>wpList_nil ?_
  show ∃ n',n'<_∧_
  exact⟨items.length - (k+1),by omega,k+1,_,by omega,rfl,U.only [1,4],aa.only [9]⟩
 intro ag U;try simp only [QQ,Qax] at ag
 refine wcf U<|wp_exit<|hK7 _ _<|hC U (.assign rfl .nil) fun Y U=>rt1 U ?_
 exact⟨rfl,aa.below⟩
theorem kR(kd vo bl sz pe to at0 ix:Int)(place:List Int)(items:List (Int×List Int))(pp pi)(cp ni ci:Nat)(w0:World)(h0:Rd (fun _=>True) w0 (.slice pp place.length cp) (.ns .i64 place))(h1:Rd (fun _=>True) w0 (.slice pi ni ci) (.l 2 (items.map itD)))(hc:CmdOk kd vo bl sz pe to at0 ix place items) :
   Calls Tryz.prog 12 #[.agg #[.int .i64 kd,.int .i64 vo,.int .i64 bl,.int .i64 sz,.int .i64 pe,.slice pp place.length cp,.int .i64 to,.int .i64 at0,.int .i64 ix,.slice pi ni ci]] w0 fun e w' => ∃ (p:Option Addr) (c:Nat),e=.returned (.tuple #[.slice p (mh kd vo bl sz pe to at0 ix place items).length c,.int .i64 0])∧Rd (New w0) w' (.slice p (mh kd vo bl sz pe to at0 ix place items).length c) (.ns .u8 (mh kd vo bl sz pe to at0 ix place items))∧Below w0.heap.size w0 w':=by
 obtain rfl:ni=items.length:=by obtain⟨pq,c9,hv,_⟩:=h1.l_shape;injection hv with _ e2 _;rw[List.length_map] at e2;exact e2
 rw[show mh kd vo bl sz pe to at0 ix place items=(im [kd,vo,bl,sz,pe,to,at0,ix]++im ((place.length:Int) :: place))++(enc items.length++ir items) from(List.append_assoc _ _ _).symm]
 refine i9 Tryz.func12 rfl Tryz.ntmps12 fun Y U =>?_
 have m0:=MemOk.start (fun _=>False) w0
 refine zsr fun K0 hK0=>plz<|iu U m0 20 (cs:=[_,_,_,_,_,_,_,_,_,_]) rfl rfl rfl fun g1 Y w2 U m2 _ _=>gz hK0 U (.assign rfl<|.assign rfl<|.nil) fun Y U=>wsk fun K1 hK1=>zsr fun K2 hK2=>g9 U (.loadBR m2 (i:=20) rfl rfl U38 rfl ip (by simp) (by dsimp only [List.drop,List.take] <;> rfl) .nil) fun Y U=>plz<|ecb U Tryz.func27 rfl m2 (tI _ _ _ _ _ _ _ _ place items _ _ _ _ _ _ ((h0.now' m2 rfl).any) ((h1.now' m2 rfl).any) hc) fun Y w7 U m8=>gz hK2 U (.not rfl .nil) fun Y U=>wcf U<|zss<|hK1 _ _<|zsr fun K3 hK3=>g9 U (.fa 0 rfl U38<|.lb m8 20 U3 rfl rfl rfl<|.fa 1 rfl U38<|.lb m8 20 U3 rfl rfl rfl<|.fa 2 rfl U38<|.lb m8 20 U3 rfl rfl rfl<|.fa 3 rfl U38<|.lb m8 20 U3 rfl rfl rfl<|.fa 4 rfl U38<|.lb m8 20 U3 rfl rfl rfl<|.fa 6 rfl U38<|.lb m8 20 U3 rfl rfl rfl<|.fa 7 rfl U38<|.lb m8 20 U2 rfl rfl rfl<|.fa 8 rfl U38<|.lb m8 20 U3 rfl rfl rfl .nil) fun Y U=>plz (iv U m8 21 (k:=.i64) rfl rfl U48 ki rfl rfl rfl rfl fun ao Y ap U ak =>?_)
 have ai:=ak.freezeN 21 rfl
 refine plz<|ecn U Tryz.func44 rfl ai 22 (jN [kd,vo,bl,sz,pe,to,at0,ix] _ _ _ ((ai.rd (i:=21) rfl).any) (by simp) hc.n63) fun aq ar Y au U al=>gz hK3 U (.assign rfl .nil) fun Y U=>wsk fun K4 hK4 =>?_
 replace U:=U.oz [1,2,3,4]
 have ab:=al.oz [20,21,22]
 refine region_p 11 (B:=[(20,_)]) (ab.to i1l) ab (by kernel_rfl) (fun av aa ac =>?_);clear ab
 refine goR aa [0,1,2,5,6] [2,6] 5 0 103 U (ac.to i1l) (.move rfl<|.fa 5 rfl U38<|.lb hh 20 U35 rfl rfl rfl<|.fa 9 rfl U38<|.lb hh 20 U36 rfl rfl rfl .nil) fun Y U=>so 3 ?_
 refine ecn U Tryz.func45 rfl ac 23 (pC place _ _ _ ((h0.now' ac rfl).any) (by have:=hc.pl;omega) (fun k hk=>by have:=hc.pb k hk;omega)) fun aw ax Y ay U ad=>⟨ad.to i1l,?_⟩
 refine so 4 ?_
 refine iC U ad 22 rfl rfl rfl (ad.numsO (i:=23) rfl) U22 jU (by decide) (by have:=hc.lens;omega) rfl fun az aA Y aB U ae=>⟨ae.to i1l,?_⟩
 refine so 7 ?_
 refine ecn U Tryz.func46 rfl ae 24 (lT items _ _ _ _ ((h1.now' ae rfl).any) (by have:=hc.il;omega) (fun e he=>by have:=hc.ib e he;omega)) fun aC aD Y aE U ag=>⟨ag.to i1l,?_⟩
 refine so 8 ?_
 refine iC U ag 22 rfl rfl rfl (ag.numsO (i:=24) rfl) U22 jU (by decide) (by have:=hc.lens;simp only [List.length_append] at *;omega) rfl fun aF aG Y aH U ah=>⟨ah.to i1l,?_⟩
 refine goA aa [9,10] 2 511 2047 U (ah.to i1l) (.assign rfl<|.assign rfl .nil) fun Y U=>wad<|hK4 _ _<|rt2 U ?_
 have aj:=ah.freezeN 22 rfl
 exact⟨_,_,rfl,aj.outF (i:=22) rfl,aj.below⟩
end
section
theorem qR(X B)(L:List VolV)(p)(c:Nat)(vo w0)(hl:L.length≤1000000)(m0:MemOk X w0 [(1,.box B 32 [.slice p (L.map ij).length c]),(2,.dat (.slice p (L.map ij).length c) (.l 11 (L.map ij)))] w0) :
   Calls Tryz.prog 49 #[.pointer (some ⟨B,0,none⟩),.int .i64 vo] w0 fun e w' => ∃ j:Int,e=.returned (.int .i64 j)∧((j = -1∧∀ (j:Nat) (e:VolV),L[j]? = some e→e.vo≠vo)∨∃ (k:Nat) (e:VolV),j=(k:Int)∧L[k]? = some e∧e.vo=vo)∧MemOk X w0 [(1,.box B 32 [.slice p (L.map ij).length c]),(2,.dat (.slice p (L.map ij).length c) (.l 11 (L.map ij)))] w':=by
 refine iZ Tryz.func49 rfl Tryz.ntmps49 fun Y U=>hC U (.assign rfl .nil) fun Y U=>wsk fun K0 hK0=>hC U (.assign rfl .nil) fun Y U=>wp_block<|wp_loop_ghost (fun g a w => ∃ (k:Nat),k≤L.length∧g=L.length - k∧(∀ (j:Nat) (e:VolV),j<k→L[j]? = some e→e.vo≠vo)∧Has 26 [(0,.pointer (some ⟨B,0,none⟩)),(1,.int .i64 vo),(5,.int .i64 k)] a∧MemOk X w0 [(1,.box B 32 [.slice p (L.map ij).length c]),(2,.dat (.slice p (L.map ij).length c) (.l 11 (L.map ij)))] w) (L.length) ?_ ?_
 · exact⟨0,Nat.zero_le _,rfl,fun j e h=>by omega,U.only [0,1,5],m0.only [1,2]⟩
 clear U m0
 rintro g Y w3 ⟨k,hkl,hg,hno,U,m3⟩
 refine wsk fun K1 hK1=>hC U (.move rfl<|.move rfl<|.nilCheck rfl<|.fa 0 rfl U32<|.lb m3 1 U30 rfl rfl rfl<|.len rfl U30<|.lss rfl rfl .nil) fun Y U=>bc U 12 ?_ ?_
 ·
  intro ad U;try simp only [QQ,Qax] at ad
  have hk:k<L.length:=by have:=ad;simp at this;omega
  obtain⟨x9,hes⟩:∃ x,L[k]? = some x:=⟨_,List.getElem?_eq_getElem (by simpa using hk)⟩
  refine wct U<|zss<|hK1 _ _<|wsk fun K2 hK2=>wp_block ?_
  replace U:=U.oz [0,1,5]
  refine zsr fun K3 hK3=>g9 U (.move rfl<|.nilCheck rfl<|.fa 0 rfl U32<|.lb m3 1 U30 rfl rfl rfl<|.move rfl .nil) fun Y U =>?_
  obtain⟨aG,aH,aC,ar,au,av,az⟩:=m3.openR (i:=2) rfl (k) (r:=[.v (.int .i64 x9.vo),.v (.int .i64 x9.bl),.v (.int .i64 x9.sz),.v (.int .i64 x9.pe),.ns .i64 x9.place,.v (.int .i64 x9.to),.v (.int .i64 x9.ne),.v (.bool x9.hi),.v (.int .i64 x9.fl),.ns .i64 x9.pins,.l 2 (x9.ws.map wrD)]) (iT hes) 100 rfl
  revert U
  cases ar;clear m3 av
  rcases au with _|⟨ae,_|⟨ag,_|⟨ah,_|⟨ai,_|⟨ab,_|⟨aj,_|⟨ak,_|⟨al,_|⟨ao,_|⟨ac,_|⟨aa,_|_⟩⟩⟩⟩⟩⟩⟩⟩⟩⟩⟩
  obtain rfl:=ae.v_out
  clear ae
  obtain rfl:=ag.v_out
  clear ag
  obtain rfl:=ah.v_out
  clear ah
  obtain rfl:=ai.v_out
  clear ai
  obtain⟨aI,aJ,aw,aD⟩:=ab.ns_shape;subst aw
  intro U
  have aA:=az.dat 101 rfl (ab.cast (fun _ h=>(ia rfl h)));clear az ab
  revert U
  obtain rfl:=aj.v_out
  clear aj
  obtain rfl:=ak.v_out
  clear ak
  obtain rfl:=al.v_out
  clear al
  obtain rfl:=ao.v_out
  clear ao
  obtain⟨aK,aL,ax,aE⟩:=ac.ns_shape;subst ax
  intro U
  have aB:=aA.dat 102 rfl (ac.cast (fun _ h=>(ia rfl (ia rfl h))));clear aA ac
  revert U
  obtain⟨aM,aN,ay,aF⟩:=aa.l_shape;subst ay
  intro U
  have aq:=aB.dat 103 rfl (aa.cast (fun _ h=>(ia rfl (ia rfl (ia rfl h)))));clear aB aa
  refine gz hK3 U (.c rfl (fun _ h_=>ii h_ rfl rfl U30 hH (k) rfl (by simpa using hk))<|.fieldAddrQ 0 rfl U51 rfl (s:=0) (by kernel_rfl) rfl<|.loadC0 aq (i:=100) rfl rfl U3 rfl<|.move rfl<|.eql rfl rfl<|.nil) fun Y U=>bc U 24 ?_ ?_
  ·
   intro ap U;try simp only [QQ,Qax] at ap
   have heq9:x9.vo=vo:=by simpa using ap
   refine wct U ?_
   replace U:=U.oz [0,1,5]
   refine hC U (.move rfl<|.assign rfl .nil) fun Y U=>rt1 U ?_
   first|exact⟨k,rfl,Or.inr ⟨k,x9,rfl,hes,heq9⟩,aq.only [1,2]⟩|exact⟨-1,rfl,Or.inl ⟨rfl,fun j e he=>hno j e (by have:=(List.getElem?_eq_some_iff.1 he).1;omega) he⟩,aq.only [1,2]⟩
  intro ap U;try simp only [QQ,Qax] at ap
  have hne9:x9.vo≠vo:=by simpa using ap
  refine wcf U<|zss (hK2 _ _ ?_)
  replace U:=U.oz [0,1,5]
  refine wp_region_lit<|g9 U (.move rfl<|.inc (k+1)<|.assign rfl .nil) fun Y U=>wpList_nil ?_
  show ∃ n',n'<_∧_
  exact⟨L.length - (k+1),by omega,k+1,by omega,rfl,fun j e hj he=>(Nat.lt_or_eq_of_le (Nat.le_of_lt_succ hj)).elim (fun h1=>hno j e h1 he) (fun h1=>by subst h1;rw[hes] at he;obtain rfl:=Option.some.inj he;exact hne9),U.only [0,1,5],aq.only [1,2]⟩
 intro ad U;try simp only [QQ,Qax] at ad
 have hkE:k=L.length:=by have:=ad;simp at this;omega
 refine wcf U<|wp_exit<|hK0 _ _ ?_
 replace U:=U.oz [0,1,5]
 refine hC U (.assign rfl .nil) fun Y U=>rt1 U ?_
 first|exact⟨k,rfl,Or.inr ⟨k,x9,rfl,hes,heq9⟩,m3.only [1,2]⟩|exact⟨-1,rfl,Or.inl ⟨rfl,fun j e he=>hno j e (by have:=(List.getElem?_eq_some_iff.1 he).1;omega) he⟩,m3.only [1,2]⟩
end
section
def DoY(x y:VolV)(kd at0 ix:Int)(its:List (Int×List Int))(e9:Int):Prop:=y.vo=x.vo∧y.bl=x.bl∧y.sz=x.sz∧y.pe=x.pe∧y.place=x.place∧y.to=x.to∧y.pins=x.pins∧doR x.bl x.sz x.to x.ne x.fl x.hi x.pins x.ws kd at0 ix its=(y.ne,y.hi,y.fl,y.ws,e9)
end
section
theorem tE{S:Nat→Prop}{w:World}{ls:List (List Int)}(h:Rd S w v (.l 1 (ls.map bD))):IsLists w v ls:=by
 rcases h.l_out with h0|⟨b,off,c,f,rfl,h1,h2,h3,h4,h5⟩
 · have e:ls=[]:=List.map_eq_nil_iff.1 h0
   subst e
   obtain⟨p,c,rfl,-⟩:=h.l_shape
   exact⟨p,c,rfl,.inl rfl⟩
 refine⟨_,c,by rw[List.length_map],.inr ⟨b,off,rfl,h2,fun j hj =>?_⟩⟩
 have hj':j<(ls.map bD).length:=by rw[List.length_map];exact hj
 have h6:=(h4 j 0 hj' (by decide)).1
 refine⟨_,by rw[show off+j=off+j*1+0 by omega];exact h6,?_⟩
 have h7:=h5 j 0 (bD (ls.getD j [])) (.ns .u8 (ls.getD j [])) (by rw[List.getElem?_map,List.getD,List.getElem?_eq_getElem hj];rfl) rfl
 exact h7.ns_out.nums
theorem rh(v)(xs:List Int)(w0:World)(h:Rd (fun _=>True) w0 v (.ns .u64 xs))(hl:xs.length≤1000)(hxb:∀ k,k<xs.length→0≤xs.getD k 0∧xs.getD k 0≤9223372036854775807) :
   Calls Tryz.prog 104 #[v] w0 fun e w' => ∃ p c,e=.returned (.slice p (im xs).length c)∧w'.ownsRow w0.heap.size 5 1 (.slice p (im xs).length c) (im xs).length ((im xs).map (Value.int .u8))∧Below w0.heap.size w0 w':=by
 refine(wb v xs w0 h.ns_out.nums (fun j hj=>⟨(hxb j hj).1,by have:=(hxb j hj).2;omega⟩) hl).mono fun e w' h =>?_
 obtain⟨u,rfl,hown,hbel⟩:=h
 obtain⟨p,c,rfl⟩:=i6 hown
 exact⟨p,c,rfl,hown,hbel⟩
theorem wg(v)(ls:List (List Int))(w0:World)(h:Rd (fun _=>True) w0 v (.l 1 (ls.map bD)))(hl:ls.length≤1000)(hs:i4 ls≤1000000) :
   Calls Tryz.prog 68 #[v] w0 fun e w' => ∃ p c,e=.returned (.slice p (ls.flatten).length c)∧w'.ownsRow w0.heap.size 5 1 (.slice p (ls.flatten).length c) (ls.flatten).length ((ls.flatten).map (Value.int .u8))∧Below w0.heap.size w0 w':=by
 refine(tD v ls w0 (tE h) hl hs).mono fun e w' h =>?_
 obtain⟨u,rfl,hown,hbel⟩:=h
 obtain⟨p,c,rfl⟩:=i6 hown
 exact⟨p,c,rfl,hown,hbel⟩
end
section
section
variable {P:Program} {ops:Array Oper} {Q:Exit→Act→World→Prop} {md:Region.Mode} {listed:Array Bool} {fuel e:Nat} {S:World→Prop} {a:Act} {w:World}
theorem y5{I:Act→World→Prop}(k m')(h:∀ a w,I a w→ik P md ops Q e S k (lst ops.size m') a w)(g:(∀ a w,I a w→ik P md ops Q e S k (lst ops.size m') a w)→ik P md ops Q e S fuel listed a w):ik P md ops Q e S fuel listed a w:=g h
theorem ldl(m)(h:ik P md ops Q e S fuel (lst ops.size m) a w)(hl:listed=lst ops.size m:=by kernel_rfl):ik P md ops Q e S fuel listed a w:=hl ▸ h
end
end
section
abbrev cxt(w:World):Cx:=cx (fun _=>True) w
theorem MemOk.own_new{w0 w:World}(m:MemOk (cxt w0) w0 M w){b:Nat}(h:Own M b):w0.heap.size≤b:=by
 obtain⟨i,r,hl,hb⟩:=h
 have hok:=m.ok i r hl
 have hn:¬ b∈(cxt w0).bad:=List.not_mem_nil
 cases r with
 | dat v d=>cases hb
 | box g e cs=>injection hb with hb;subst hb;exact hok.2.resolve_right hn
 | num v e k zs=>exact(World.ownsRow.lt hok b hb).1
 | row v e k rows=>obtain⟨cs,q,_⟩:=hok;exact(World.ownsRow.lt q b hb).1
 | cel b o vs=>cases hb
 | rowC v e k rows cs=>exact(World.ownsRow.lt hok.1 b hb).1
 | seg v e k rows=>exact(hok.2 b hb).resolve_right hn
 | any g=>injection hb with hb;subst hb;exact hok.2.resolve_right hn
 | gone=>cases hb
 | mp g k ks rows=>injection hb with hb;subst hb;exact hok.2.resolve_right hn
 | mpE g k es ck rows=>injection hb with hb;subst hb;exact hok.2.resolve_right hn
 | obj g o=>injection hb with hb;subst hb;exact hok.2.resolve_right hn
theorem MemOk.old{w0 w:World}(m:MemOk (cxt w0) w0 M w){S:Nat→Prop}(h:Rd S w0 v d):Rd (jt (cxt w0) M) w v d:=
 h.mono m.keep.2.2.2.1 (fun b hlt _=>⟨m.keep.2.2.2.2 b hlt (by simp [cx]),fun _=>trivial,fun ho=>by have:=m.own_new ho;omega⟩)
theorem j5{ls:List (List Int)}{w0:World}{S:List Int}(h:Rd (fun _=>True) w0 v (.l 1 (ls.map bD)))(hl:ls.length≤1000)(hs:i4 ls≤1000000)(hS:ls.flatten=S) :
   Calls Tryz.prog 68 #[v] w0 fun e w' => ∃ p c,e=.returned (.slice p S.length c)∧w'.ownsRow w0.heap.size 5 1 (.slice p S.length c) S.length (S.map (Value.int .u8))∧Below w0.heap.size w0 w':=by
 subst hS;exact wg v ls w0 h hl hs
end
section
theorem o6{α:Type}[DecidableEq α]{xs ys:List α}(h:¬ xs.length=ys.length):decide (xs=ys)=false:=decide_eq_false (fun e=>h (by rw[e]))
theorem mY{α:Type}[DecidableEq α]{xs ys:List α}(hl:xs.length=ys.length)(hk:k=xs.length)(h:xs.take k=ys.take k):decide (xs=ys)=true:=by
 subst hk
 rw[List.take_of_length_le (Nat.le_refl _),List.take_of_length_le (by omega)] at h
 exact decide_eq_true h
theorem mZ{α:Type}[DecidableEq α]{xs ys:List α}{k:Nat}{x y:α}(h1:xs[k]? = some x)(h2:ys[k]? = some y)(h:¬ x=y):decide (xs=ys)=false:=decide_eq_false (fun e=>h (by rw[e,h2] at h1;injection h1 with h1;exact h1.symm))
theorem lH{α:Type}{xs ys:List α}{x y:α}(ht:xs.take k=ys.take k)(h1:xs[k]? = some x)(h2:ys[k]? = some y)(h:x=y):xs.take (k+1)=ys.take (k+1):=by
 obtain⟨a1,a2⟩:=List.getElem?_eq_some_iff.1 h1
 obtain⟨b1,b2⟩:=List.getElem?_eq_some_iff.1 h2
 rw[List.take_add_one,List.take_add_one,ht,h1,h2,h]
theorem qS{xs ys:List Int}(h1:k<xs.length)(h2:k<ys.length)(h:¬ xs.getD k 0=ys.getD k 0):decide (xs=ys)=false:=decide_eq_false (fun e=>h (by rw[e]))
theorem nF{xs ys:List Int}(ht:xs.take k=ys.take k)(h1:k<xs.length)(h2:k<ys.length)(h:xs.getD k 0=ys.getD k 0):xs.take (k+1)=ys.take (k+1):=by
 rw[List.getD,List.getD,List.getElem?_eq_getElem h1,List.getElem?_eq_getElem h2] at h
 exact lH ht (List.getElem?_eq_getElem h1) (List.getElem?_eq_getElem h2) h
theorem msI(xs ys:List Int)(p1 p2 c1 c2)(w0:World)(hx:xs.length≤1000000)(hy:ys.length≤1000000)(h1:Rd (fun _=>True) w0 (.slice p1 xs.length c1) (.ns .i64 xs))(h2:Rd (fun _=>True) w0 (.slice p2 ys.length c2) (.ns .i64 ys)) :
   Calls Tryz.prog 103 #[.slice p1 xs.length c1,.slice p2 ys.length c2] w0 fun e w'=>e=.returned (.bool (decide (xs=ys)))∧Below w0.heap.size w0 w':=by
 refine iZ Tryz.func103 rfl Tryz.ntmps103 fun Y U =>?_
 have m0:=MemOk.start (fun _=>False) w0
 refine hC U (.assign rfl .nil) fun Y U=>wsk fun K0 hK0=>hC U (.move rfl<|.len rfl U35<|.move rfl<|.len rfl U35<|.neq rfl rfl .nil) fun Y U=>bc U 10 ?_ ?_
 ·
  intro hb7 U;try simp only [QQ,Qax] at hb7
  have hR:decide (xs=ys)=false:=o6 (by omega)
  refine wct U<|hC U (.assign rfl .nil) fun Y U=>rt1 U ?_
  exact⟨by rw[hR],m0.below⟩
 intro hb7 U;try simp only [QQ,Qax] at hb7
 have hlq:xs.length=ys.length:=by omega
 refine wcf U<|zss<|hK0 _ _<|wsk fun K1 hK1=>hC U (.assign rfl .nil) fun Y U=>wp_block<|wp_loop_ghost (fun g a w => ∃ k:Nat,k≤xs.length∧xs.length=ys.length∧xs.take k=ys.take k∧g=xs.length - k∧Has 26 [(0,.slice p1 xs.length c1),(1,.slice p2 ys.length c2),(5,.int .i64 k)] a∧MemOk (cn w0) w0 [] w) (xs.length) ?_ ?_
 · exact⟨0,Nat.zero_le _,hlq,rfl,rfl,U.only [0,1,5],m0.only []⟩
 clear U m0
 rintro g Y av ⟨k,hkl,hlq,htk,hg,U,ae⟩
 refine wsk fun K2 hK2=>hC U (.move rfl<|.move rfl<|.len rfl U35<|.lss rfl rfl .nil) fun Y U=>bc U 14 ?_ ?_
 ·
  intro ab U;try simp only [QQ,Qax] at ab
  have hk:k<xs.length:=by omega
  have hk2:k<ys.length:=by omega
  refine wct U<|zss<|hK2 _ _<|wsk fun K3 hK3=>wp_block<|wsk fun K4 hK4 =>?_
  obtain⟨al,ao,ag,ap,ac⟩:=h1.extN (k) hk
  revert U
  cases ag
  intro U
  obtain⟨aq,ar,ah,au,ad⟩:=h2.extN (k) hk2
  revert U
  cases ah
  intro U
  have ai:MemOk _ _ [] _:=ae.only [];clear ae
  refine region_p 9 (B:=[]) (ai.to trivial) ai (by kernel_rfl) (fun aw aj ak =>?_);clear ai
  refine goR aj [0,1,2,3,4,5,6,7,8] [3,7] 9 0 511 U (ak.to trivial) (.move rfl<|.move rfl<|.p (fun _ _ h_=>ii h_ rfl rfl U35 iG (k) rfl hk)<|.loadAt1 (fun _ h_=>(ac h_ rfl)) (q:=0) rfl rfl rfl U3 rfl<|.move rfl<|.move rfl<|.p (fun _ _ h_=>ii h_ rfl rfl U35 iG (k) rfl hk2)<|.loadAt1 (fun _ h_=>(ad h_ rfl)) (q:=0) rfl rfl rfl U3 rfl<|.neq rfl rfl .nil) fun Y U=>wad<|hK4 _ _<|bc U 25 ?_ ?_
  ·
   intro aa U;try simp only [QQ,Qax] at aa
   have hR:decide (xs=ys)=false:=qS hk hk2 aa
   refine wct U ?_
   replace U:=U.oz [0,1,5]
   refine hC U (.assign rfl .nil) fun Y U=>rt1 U ?_
   exact⟨by rw[hR],ak.below⟩
  intro aa U;try simp only [QQ,Qax] at aa
  have htk2:=nF htk hk hk2 aa
  refine wcf U<|zss (hK3 _ _ ?_)
  replace U:=U.oz [0,1,5]
  refine wp_region_lit<|g9 U (.move rfl<|.inc (k+1)<|.assign rfl .nil) fun Y U=>wpList_nil ?_
  show ∃ n',n'<_∧_
  exact⟨xs.length - (k+1),by omega,k+1,by omega,hlq,htk2,rfl,U.only [0,1,5],ak.only []⟩
 intro ab U;try simp only [QQ,Qax] at ab
 have hR:decide (xs=ys)=true:=mY hlq (by omega) htk
 refine wcf U<|wp_exit<|hK1 _ _<|hC U (.assign rfl .nil) fun Y U=>rt1 U ?_
 exact⟨by rw[hR],ae.below⟩
theorem msP(xs ys:List Int)(p1 p2 c1 c2)(w0:World)(hx:xs.length≤1000000)(hy:ys.length≤1000000)(h1:Rd (fun _=>True) w0 (.slice p1 xs.length c1) (.ns .i64 xs))(h2:Rd (fun _=>True) w0 (.slice p2 ys.length c2) (.ns .i64 ys)) :
   Calls Tryz.prog 54 #[.slice p1 xs.length c1,.slice p2 ys.length c2] w0 fun e w'=>e=.returned (.bool (decide (xs=ys)))∧Below w0.heap.size w0 w':=by
 refine iZ Tryz.func54 rfl Tryz.ntmps54 fun Y U =>?_
 have m0:=MemOk.start (fun _=>False) w0
 refine hC U (.assign rfl .nil) fun Y U=>wsk fun K0 hK0=>hC U (.move rfl<|.len rfl U48<|.move rfl<|.len rfl U48<|.neq rfl rfl .nil) fun Y U=>bc U 10 ?_ ?_
 ·
  intro hb7 U;try simp only [QQ,Qax] at hb7
  have hR:decide (xs=ys)=false:=o6 (by omega)
  refine wct U<|hC U (.assign rfl .nil) fun Y U=>rt1 U ?_
  exact⟨by rw[hR],m0.below⟩
 intro hb7 U;try simp only [QQ,Qax] at hb7
 have hlq:xs.length=ys.length:=by omega
 refine wcf U<|zss<|hK0 _ _<|wsk fun K1 hK1=>hC U (.assign rfl .nil) fun Y U=>wp_block<|wp_loop_ghost (fun g a w => ∃ k:Nat,k≤xs.length∧xs.length=ys.length∧xs.take k=ys.take k∧g=xs.length - k∧Has 26 [(0,.slice p1 xs.length c1),(1,.slice p2 ys.length c2),(5,.int .i64 k)] a∧MemOk (cn w0) w0 [] w) (xs.length) ?_ ?_
 · exact⟨0,Nat.zero_le _,hlq,rfl,rfl,U.only [0,1,5],m0.only []⟩
 clear U m0
 rintro g Y av ⟨k,hkl,hlq,htk,hg,U,ae⟩
 refine wsk fun K2 hK2=>hC U (.move rfl<|.move rfl<|.len rfl U48<|.lss rfl rfl .nil) fun Y U=>bc U 14 ?_ ?_
 ·
  intro ab U;try simp only [QQ,Qax] at ab
  have hk:k<xs.length:=by omega
  have hk2:k<ys.length:=by omega
  refine wct U<|zss<|hK2 _ _<|wsk fun K3 hK3=>wp_block<|wsk fun K4 hK4 =>?_
  obtain⟨al,ao,ag,ap,ac⟩:=h1.extN (k) hk
  revert U
  cases ag
  intro U
  obtain⟨aq,ar,ah,au,ad⟩:=h2.extN (k) hk2
  revert U
  cases ah
  intro U
  have ai:MemOk _ _ [] _:=ae.only [];clear ae
  refine region_p 9 (B:=[]) (ai.to trivial) ai (by kernel_rfl) (fun aw aj ak =>?_);clear ai
  refine goR aj [0,1,2,3,4,5,6,7,8] [3,7] 9 0 511 U (ak.to trivial) (.move rfl<|.move rfl<|.p (fun _ _ h_=>ii h_ rfl rfl U48 iP (k) rfl hk)<|.loadAt1 (fun _ h_=>(ac h_ rfl)) (q:=0) rfl rfl rfl U2 rfl<|.move rfl<|.move rfl<|.p (fun _ _ h_=>ii h_ rfl rfl U48 iP (k) rfl hk2)<|.loadAt1 (fun _ h_=>(ad h_ rfl)) (q:=0) rfl rfl rfl U2 rfl<|.neq rfl rfl .nil) fun Y U=>wad<|hK4 _ _<|bc U 25 ?_ ?_
  ·
   intro aa U;try simp only [QQ,Qax] at aa
   have hR:decide (xs=ys)=false:=qS hk hk2 aa
   refine wct U ?_
   replace U:=U.oz [0,1,5]
   refine hC U (.assign rfl .nil) fun Y U=>rt1 U ?_
   exact⟨by rw[hR],ak.below⟩
  intro aa U;try simp only [QQ,Qax] at aa
  have htk2:=nF htk hk hk2 aa
  refine wcf U<|zss (hK3 _ _ ?_)
  replace U:=U.oz [0,1,5]
  refine wp_region_lit<|g9 U (.move rfl<|.inc (k+1)<|.assign rfl .nil) fun Y U=>wpList_nil ?_
  show ∃ n',n'<_∧_
  exact⟨xs.length - (k+1),by omega,k+1,by omega,hlq,htk2,rfl,U.only [0,1,5],ak.only []⟩
 intro ab U;try simp only [QQ,Qax] at ab
 have hR:decide (xs=ys)=true:=mY hlq (by omega) htk
 refine wcf U<|wp_exit<|hK1 _ _<|hC U (.assign rfl .nil) fun Y U=>rt1 U ?_
 exact⟨by rw[hR],ae.below⟩
theorem yG(xs ys:List Int)(p1 p2 c1 c2)(w0:World)(h1:Rd (fun _=>True) w0 (.slice p1 xs.length c1) (.ns .u8 xs))(h2:Rd (fun _=>True) w0 (.slice p2 ys.length c2) (.ns .u8 ys))(hb1:BytesL xs)(hb2:BytesL ys) :
   Calls Tryz.prog 64 #[.slice p1 xs.length c1,.slice p2 ys.length c2] w0 fun e w'=>e=.returned (.bool (decide (xs=ys)))∧Below w0.heap.size w0 w':=by
 refine iZ Tryz.func64 rfl Tryz.ntmps64 fun Y U =>?_
 have m0:=MemOk.start (fun _=>False) w0
 refine hC U (.assign rfl .nil) fun Y U=>hC U (.move rfl<|.str rfl (h1.now' m0 rfl).ns_out.nums U22 U5 U9<|.move rfl<|.str rfl (h2.now' m0 rfl).ns_out.nums U22 U5 U9<|.eqlS rfl rfl<|.assign rfl .nil) fun Y U=>rt1 U ?_
 exact⟨by rw[j2 hb1 hb2],m0.below⟩
end
section
def tZ(x:VolV):Prop:=x.place.length≤1000000∧x.pins.length≤1000000∧x.ws.length≤1000000∧∀ e∈x.ws,e.2.length≤1000000∧∀ z∈e.2,BytesL z.2
abbrev oq(x y:VolV):Prop:=x.vo=y.vo∧x.bl=y.bl∧x.sz=y.sz∧x.pe=y.pe∧x.place=y.place∧x.to=y.to
abbrev zn(x y:VolV):Prop:=oq x y∧x.ws.length≤y.ws.length∧x.ws=y.ws.take x.ws.length
abbrev uX(x y:VolV):Prop:=oq x y∧x.ne=y.ne∧x.hi=y.hi∧x.fl=y.fl∧x.pins=y.pins∧x.ws=y.ws
abbrev zP(x y:VolV):Prop:=zn x y∧x.ws.length=y.ws.length∧x.ne=y.ne∧x.hi=y.hi∧x.fl=y.fl∧x.pins=y.pins
theorem zo(xs ys:List (Int×List Int))(p1 p2 n1 n2 c1 c2)(w0:World)(h1:Rd (fun _=>True) w0 (.slice p1 n1 c1) (.l 2 (xs.map itD)))(h2:Rd (fun _=>True) w0 (.slice p2 n2 c2) (.l 2 (ys.map itD)))(hl1:xs.length≤1000000)(hl2:ys.length≤1000000)(hi1:∀ e∈xs,BytesL e.2)(hi2:∀ e∈ys,BytesL e.2) :
   Calls Tryz.prog 80 #[.slice p1 n1 c1,.slice p2 n2 c2] w0 fun e w'=>e=.returned (.bool (decide (xs=ys)))∧Below w0.heap.size w0 w':=by
 obtain rfl:n1=xs.length:=by obtain⟨pq,cq,hv,_⟩:=h1.l_shape;injection hv with _ e2 _;rw[List.length_map] at e2;exact e2
 obtain rfl:n2=ys.length:=by obtain⟨pq,cq,hv,_⟩:=h2.l_shape;injection hv with _ e2 _;rw[List.length_map] at e2;exact e2
 refine iZ Tryz.func80 rfl Tryz.ntmps80 fun Y U =>?_
 have m0:=MemOk.start (fun _=>False) w0
 refine hC U (.assign rfl .nil) fun Y U=>wsk fun K0 hK0=>hC U (.move rfl<|.len rfl U36<|.move rfl<|.len rfl U36<|.neq rfl rfl .nil) fun Y U=>bc U 10 ?_ ?_
 ·
  intro hb7 U;try simp only [QQ,Qax] at hb7
  have hR:decide (xs=ys)=false:=o6 (by omega)
  refine wct U<|hC U (.assign rfl .nil) fun Y U=>rt1 U ?_
  exact⟨by rw[hR],m0.below⟩
 intro hb7 U;try simp only [QQ,Qax] at hb7
 have hlq:xs.length=ys.length:=by omega
 refine wcf U<|zss<|hK0 _ _<|wsk fun K1 hK1=>hC U (.assign rfl .nil) fun Y U=>wp_block<|wp_loop_ghost (fun g a w => ∃ k:Nat,k≤xs.length∧xs.length=ys.length∧xs.take k=ys.take k∧g=xs.length - k∧Has 43 [(0,.slice p1 xs.length c1),(1,.slice p2 ys.length c2),(5,.int .i64 k)] a∧MemOk (cn w0) w0 [] w) (xs.length) ?_ ?_
 · exact⟨0,Nat.zero_le _,hlq,rfl,rfl,U.only [0,1,5],m0.only []⟩
 clear U m0
 rintro g Y a4 ⟨k,hkl,hlq,htk,hg,U,aw⟩
 refine wsk fun K2 hK2=>hC U (.move rfl<|.move rfl<|.len rfl U36<|.lss rfl rfl .nil) fun Y U=>bc U 14 ?_ ?_
 ·
  intro aj U;try simp only [QQ,Qax] at aj
  have hk:k<xs.length:=by omega
  have hk2:k<ys.length:=by omega
  obtain⟨⟨xb,xd⟩,hes⟩:∃ e,xs[k]? = some e:=⟨_,List.getElem?_eq_getElem hk⟩
  obtain⟨⟨yb,yd⟩,hfs⟩:∃ e,ys[k]? = some e:=⟨_,List.getElem?_eq_getElem hk2⟩
  have hx1:=hi1 _ (List.mem_of_getElem? hes)
  have hy1:=hi2 _ (List.mem_of_getElem? hfs)
  refine wct U<|zss<|hK2 _ _<|wsk fun K3 hK3=>wp_block<|wsk fun K4 hK4 =>?_
  obtain⟨aK,aL,aM,ax,aN,ay,aq⟩:=h1.extA (k) (r:=[.v (.int .i64 xb),.ns .u8 xd]) (iB hes)
  revert U
  cases ax
  rcases ay with _|⟨ab,_|⟨ak,_|_⟩⟩
  obtain rfl:=ab.v_out
  clear ab
  obtain⟨a5,a6,az,aO⟩:=ak.ns_shape;subst az
  intro U
  obtain⟨aP,aQ,aR,aA,aS,aB,ar⟩:=h2.extA (k) (r:=[.v (.int .i64 yb),.ns .u8 yd]) (iB hfs)
  revert U
  cases aA
  rcases aB with _|⟨ac,_|⟨al,_|_⟩⟩
  obtain rfl:=ac.v_out
  clear ac
  obtain⟨a7,a8,aC,aT⟩:=al.ns_shape;subst aC
  intro U
  obtain⟨aU,aV,aW,aD,aX,aE,au⟩:=h1.extA (k) (r:=[.v (.int .i64 xb),.ns .u8 xd]) (iB hes)
  revert U
  cases aD
  rcases aE with _|⟨ad,_|⟨ae,_|_⟩⟩
  obtain rfl:=ad.v_out
  clear ad
  obtain⟨a9,ba,aF,aY⟩:=ae.ns_shape;subst aF
  intro U
  obtain⟨aZ,a0,a1,aG,a2,aH,av⟩:=h2.extA (k) (r:=[.v (.int .i64 yb),.ns .u8 yd]) (iB hfs)
  revert U
  cases aG
  rcases aH with _|⟨ag,_|⟨ah,_|_⟩⟩
  obtain rfl:=ag.v_out
  clear ag
  obtain⟨bb,bd,aI,a3⟩:=ah.ns_shape;subst aI
  intro U
  have aJ:MemOk _ _ [] _:=aw.only [];clear aw
  refine region_p 26 (B:=[]) (aJ.to trivial) aJ (by kernel_rfl) (fun be ao ap =>?_);clear aJ
  refine goR ao [0,1,2,3,4,5,6,7,8,9,10,11] [4,9] 12 0 4095 U (ap.to trivial) (.move rfl<|.move rfl<|.p (fun _ _ h_=>ii h_ rfl rfl U36 jA (k) rfl hk)<|.fieldAddrQ 0 rfl U59 rfl (s:=0) (by kernel_rfl) rfl<|.loadAt1 (fun _ h_=>(aq h_ rfl)) (q:=0) rfl rfl rfl U3 rfl<|.move rfl<|.move rfl<|.p (fun _ _ h_=>ii h_ rfl rfl U36 jA (k) rfl hk2)<|.fieldAddrQ 0 rfl U59 rfl (s:=0) (by kernel_rfl) rfl<|.loadAt1 (fun _ h_=>(ar h_ rfl)) (q:=0) rfl rfl rfl U3 rfl<|.neq rfl rfl<|.move rfl .nil) fun Y U=>bc U 28 ?_ ?_
  ·
   intro ai U;try simp only [QQ,Qax] at ai
   have hR:decide (xs=ys)=false:=mZ hes hfs (fun e9=>ai (Prod.mk.inj e9).1)
   refine goA ao [12,13,14,15,16,17,18,19,20,21,22,23,24,25] 14 4095 67108863 U (ap.to trivial) (.s<|.s<|.s<|.s<|.s<|.s<|.s<|.s<|.s<|.s<|.s<|.s<|.s<|.pickT rfl rfl .nil) fun Y U=>wad<|hK4 _ _<|wct U ?_
   replace U:=U.oz [0,1,5]
   refine hC U (.assign rfl .nil) fun Y U=>rt1 U ?_
   exact⟨by rw[hR],ap.below⟩
  intro ai U;try simp only [QQ,Qax] at ai
  have hq1:=ai
  refine goR ao [12,13,14,15,16,17,18,19,20,21,22,23,24,25] [16,17,22,23] 14 4095 67108863 U (ap.to trivial) (.move rfl<|.move rfl<|.p (fun _ _ h_=>ii h_ rfl rfl U36 jA (k) rfl hk)<|.fieldAddrQ 1 rfl U59 rfl (s:=0) (by kernel_rfl) rfl<|.loadAt1 (fun _ h_=>(au h_ rfl)) (q:=1) rfl rfl rfl U22 rfl<|.str rfl (fun _ h_=>(ae.now' h_ rfl).ns_out.nums) U22 U5 U9<|.move rfl<|.move rfl<|.p (fun _ _ h_=>ii h_ rfl rfl U36 jA (k) rfl hk2)<|.fieldAddrQ 1 rfl U59 rfl (s:=0) (by kernel_rfl) rfl<|.loadAt1 (fun _ h_=>(av h_ rfl)) (q:=1) rfl rfl rfl U22 rfl<|.str rfl (fun _ h_=>(ah.now' h_ rfl).ns_out.nums) U22 U5 U9<|.neqS rfl rfl<|.pickF rfl rfl .nil) fun Y U=>wad<|hK4 _ _<|bc U 42 ?_ ?_
  ·
   intro aa U;try simp only [QQ,Qax] at aa
   have hq2:¬ xd=yd:=by rw[j2 hx1 hy1] at aa;exact of_decide_eq_false aa
   have hR:decide (xs=ys)=false:=mZ hes hfs (fun e9=>hq2 (Prod.mk.inj e9).2)
   refine wct U ?_
   replace U:=U.oz [0,1,5]
   refine hC U (.assign rfl .nil) fun Y U=>rt1 U ?_
   exact⟨by rw[hR],ap.below⟩
  intro aa U;try simp only [QQ,Qax] at aa
  have hq2:xd=yd:=by rw[j2 hx1 hy1] at aa;exact of_decide_eq_true aa
  have htk2:=lH htk hes hfs (by rw[hq1,hq2])
  refine wcf U<|zss (hK3 _ _ ?_)
  replace U:=U.oz [0,1,5]
  refine wp_region_lit<|g9 U (.move rfl<|.inc (k+1)<|.assign rfl .nil) fun Y U=>wpList_nil ?_
  show ∃ n',n'<_∧_
  exact⟨xs.length - (k+1),by omega,k+1,by omega,hlq,htk2,rfl,U.only [0,1,5],ap.only []⟩
 intro aj U;try simp only [QQ,Qax] at aj
 have hR:decide (xs=ys)=true:=mY hlq (by omega) htk
 refine wcf U<|wp_exit<|hK1 _ _<|hC U (.assign rfl .nil) fun Y U=>rt1 U ?_
 exact⟨by rw[hR],aw.below⟩
theorem zp(xs ys:List (Int×List (Int×List Int)))(p1 p2 n1 n2 c1 c2)(w0:World)(h1:Rd (fun _=>True) w0 (.slice p1 n1 c1) (.l 2 (xs.map wrD)))(h2:Rd (fun _=>True) w0 (.slice p2 n2 c2) (.l 2 (ys.map wrD)))(hl1:xs.length≤1000000)(hl2:ys.length≤1000000)(hi1:∀ e∈xs,e.2.length≤1000000∧∀ x∈e.2,BytesL x.2)(hi2:∀ e∈ys,e.2.length≤1000000∧∀ x∈e.2,BytesL x.2) :
   Calls Tryz.prog 55 #[.slice p1 n1 c1,.slice p2 n2 c2] w0 fun e w'=>e=.returned (.bool (decide (xs=ys)))∧Below w0.heap.size w0 w':=by
 obtain rfl:n1=xs.length:=by obtain⟨pq,cq,hv,_⟩:=h1.l_shape;injection hv with _ e2 _;rw[List.length_map] at e2;exact e2
 obtain rfl:n2=ys.length:=by obtain⟨pq,cq,hv,_⟩:=h2.l_shape;injection hv with _ e2 _;rw[List.length_map] at e2;exact e2
 refine iZ Tryz.func55 rfl Tryz.ntmps55 fun Y U =>?_
 have m0:=MemOk.start (fun _=>False) w0
 refine hC U (.assign rfl .nil) fun Y U=>wsk fun K0 hK0=>hC U (.move rfl<|.len rfl U49<|.move rfl<|.len rfl U49<|.neq rfl rfl .nil) fun Y U=>bc U 10 ?_ ?_
 ·
  intro hb7 U;try simp only [QQ,Qax] at hb7
  have hR:decide (xs=ys)=false:=o6 (by omega)
  refine wct U<|hC U (.assign rfl .nil) fun Y U=>rt1 U ?_
  exact⟨by rw[hR],m0.below⟩
 intro hb7 U;try simp only [QQ,Qax] at hb7
 have hlq:xs.length=ys.length:=by omega
 refine wcf U<|zss<|hK0 _ _<|wsk fun K1 hK1=>hC U (.assign rfl .nil) fun Y U=>wp_block<|wp_loop_ghost (fun g a w => ∃ k:Nat,k≤xs.length∧xs.length=ys.length∧xs.take k=ys.take k∧g=xs.length - k∧Has 42 [(0,.slice p1 xs.length c1),(1,.slice p2 ys.length c2),(5,.int .i64 k)] a∧MemOk (cn w0) w0 [] w) (xs.length) ?_ ?_
 · exact⟨0,Nat.zero_le _,hlq,rfl,rfl,U.only [0,1,5],m0.only []⟩
 clear U m0
 rintro g Y a6 ⟨k,hkl,hlq,htk,hg,U,ax⟩
 refine wsk fun K2 hK2=>hC U (.move rfl<|.move rfl<|.len rfl U49<|.lss rfl rfl .nil) fun Y U=>bc U 14 ?_ ?_
 ·
  intro ak U;try simp only [QQ,Qax] at ak
  have hk:k<xs.length:=by omega
  have hk2:k<ys.length:=by omega
  obtain⟨⟨xb,xd⟩,hes⟩:∃ e,xs[k]? = some e:=⟨_,List.getElem?_eq_getElem hk⟩
  obtain⟨⟨yb,yd⟩,hfs⟩:∃ e,ys[k]? = some e:=⟨_,List.getElem?_eq_getElem hk2⟩
  have hx1:=hi1 _ (List.mem_of_getElem? hes)
  have hy1:=hi2 _ (List.mem_of_getElem? hfs)
  refine wct U<|zss<|hK2 _ _<|wsk fun K3 hK3=>wp_block<|wsk fun K4 hK4 =>?_
  obtain⟨aM,aN,aO,ay,aP,az,aq⟩:=h1.extA (k) (r:=[.v (.int .i64 xb),.l 2 (xd.map itD)]) (iI hes)
  revert U
  cases ay
  rcases az with _|⟨aa,_|⟨al,_|_⟩⟩
  obtain rfl:=aa.v_out
  clear aa
  obtain⟨a7,a8,aA,aQ⟩:=al.l_shape;subst aA
  intro U
  obtain⟨aR,aS,aT,aB,aU,aC,ar⟩:=h2.extA (k) (r:=[.v (.int .i64 yb),.l 2 (yd.map itD)]) (iI hfs)
  revert U
  cases aB
  rcases aC with _|⟨ab,_|⟨ao,_|_⟩⟩
  obtain rfl:=ab.v_out
  clear ab
  obtain⟨a9,ba,aD,aV⟩:=ao.l_shape;subst aD
  intro U
  obtain⟨aW,aX,aY,aE,aZ,aF,au⟩:=h1.extA (k) (r:=[.v (.int .i64 xb),.l 2 (xd.map itD)]) (iI hes)
  revert U
  cases aE
  rcases aF with _|⟨ac,_|⟨ad,_|_⟩⟩
  obtain rfl:=ac.v_out
  clear ac
  obtain⟨bb,bd,aG,a0⟩:=ad.l_shape;subst aG
  intro U
  obtain⟨a1,a2,a3,aH,a4,aI,av⟩:=h2.extA (k) (r:=[.v (.int .i64 yb),.l 2 (yd.map itD)]) (iI hfs)
  revert U
  cases aH
  rcases aI with _|⟨ae,_|⟨ag,_|_⟩⟩
  obtain rfl:=ae.v_out
  clear ae
  obtain⟨be,bf,aJ,a5⟩:=ag.l_shape;subst aJ
  intro U
  have aK:MemOk _ _ [] _:=ax.only [];clear ax
  refine region_p 25 (B:=[]) (aK.to trivial) aK (by kernel_rfl) (fun bg aj ap =>?_);clear aK
  refine goR aj [0,1,2,3,4,5,6,7,8,9,10,11] [4,9] 12 0 4095 U (ap.to trivial) (.move rfl<|.move rfl<|.p (fun _ _ h_=>ii h_ rfl rfl U49 jR (k) rfl hk)<|.fieldAddrQ 0 rfl j1 rfl (s:=0) (by kernel_rfl) rfl<|.loadAt1 (fun _ h_=>(aq h_ rfl)) (q:=0) rfl rfl rfl U2 rfl<|.move rfl<|.move rfl<|.p (fun _ _ h_=>ii h_ rfl rfl U49 jR (k) rfl hk2)<|.fieldAddrQ 0 rfl j1 rfl (s:=0) (by kernel_rfl) rfl<|.loadAt1 (fun _ h_=>(ar h_ rfl)) (q:=0) rfl rfl rfl U2 rfl<|.neq rfl rfl<|.move rfl .nil) fun Y U=>bc U 28 ?_ ?_
  ·
   intro ah U;try simp only [QQ,Qax] at ah
   have hR:decide (xs=ys)=false:=mZ hes hfs (fun e9=>ah (Prod.mk.inj e9).1)
   refine goA aj [12,13,14,15,16,17,18,19,20,21,22,23,24] 13 4095 33554431 U (ap.to trivial) (.s<|.s<|.s<|.s<|.s<|.s<|.s<|.s<|.s<|.s<|.s<|.s<|.pickT rfl rfl .nil) fun Y U=>wad<|hK4 _ _<|wct U ?_
   replace U:=U.oz [0,1,5]
   refine hC U (.assign rfl .nil) fun Y U=>rt1 U ?_
   exact⟨by rw[hR],ap.below⟩
  intro ah U;try simp only [QQ,Qax] at ah
  have hq1:=ah
  refine goR aj [12,13,14,15,16,17,18,19,20,21] [16,21] 10 4095 4194303 U (ap.to trivial) (.move rfl<|.move rfl<|.p (fun _ _ h_=>ii h_ rfl rfl U49 jR (k) rfl hk)<|.fieldAddrQ 1 rfl j1 rfl (s:=0) (by kernel_rfl) rfl<|.loadAt1 (fun _ h_=>(au h_ rfl)) (q:=1) rfl rfl rfl U36 rfl<|.move rfl<|.move rfl<|.p (fun _ _ h_=>ii h_ rfl rfl U49 jR (k) rfl hk2)<|.fieldAddrQ 1 rfl j1 rfl (s:=0) (by kernel_rfl) rfl<|.loadAt1 (fun _ h_=>(av h_ rfl)) (q:=1) rfl rfl rfl U36 rfl .nil) fun Y U=>ig 22 rfl (by kernel_rfl) (iq U rfl rfl rfl rfl)<|fun K hK=>iw U Tryz.func80 rfl rfl rfl rfl (zo xd yd _ _ _ _ _ _ _ ((ad.now' ap rfl).any) ((ag.now' ap rfl).any) hx1.1 hy1.1 hx1.2 hy1.2) ?_
  rintro e bh ⟨rfl,aL⟩
  have aw:=ap.later aL
  refine⟨_,rfl,?_⟩;intro Y U
  refine hK _ _ (aw.to trivial) ?_;clear hK K
  refine goA aj [23,24] 2 8388607 33554431 U (aw.to trivial) (.not rfl<|.pickF rfl rfl .nil) fun Y U=>wad<|hK4 _ _<|bc U 41 ?_ ?_
  ·
   intro ai U;try simp only [QQ,Qax] at ai
   have hR:decide (xs=ys)=false:=mZ hes hfs (fun e9=>ai (Prod.mk.inj e9).2)
   refine wct U ?_
   replace U:=U.oz [0,1,5]
   refine hC U (.assign rfl .nil) fun Y U=>rt1 U ?_
   exact⟨by rw[hR],aw.below⟩
  intro ai U;try simp only [QQ,Qax] at ai
  have htk2:=lH htk hes hfs (by rw[hq1,ai])
  refine wcf U<|zss (hK3 _ _ ?_)
  replace U:=U.oz [0,1,5]
  refine wp_region_lit<|g9 U (.move rfl<|.inc (k+1)<|.assign rfl .nil) fun Y U=>wpList_nil ?_
  show ∃ n',n'<_∧_
  exact⟨xs.length - (k+1),by omega,k+1,by omega,hlq,htk2,rfl,U.only [0,1,5],aw.only []⟩
 intro ak U;try simp only [QQ,Qax] at ak
 have hR:decide (xs=ys)=true:=mY hlq (by omega) htk
 refine wcf U<|wp_exit<|hK1 _ _<|hC U (.assign rfl .nil) fun Y U=>rt1 U ?_
 exact⟨by rw[hR],ax.below⟩
theorem zq(x y:VolV)(p1 p2 p3 q1 q2 q3 c1 c2 c3 d1 d2 d3 nx ny)(w0:World)(hx:tZ x)(hy:tZ y)(h1:Rd (fun _=>True) w0 (.slice p1 x.place.length c1) (.ns .i64 x.place))(h4:Rd (fun _=>True) w0 (.slice q1 y.place.length d1) (.ns .i64 y.place)) :
   Calls Tryz.prog 53 #[.agg #[.int .i64 x.vo,.int .i64 x.bl,.int .i64 x.sz,.int .i64 x.pe,.slice p1 x.place.length c1,.int .i64 x.to,.int .i64 x.ne,.bool x.hi,.int .i64 x.fl,.slice p2 x.pins.length c2,.slice p3 nx c3],.agg #[.int .i64 y.vo,.int .i64 y.bl,.int .i64 y.sz,.int .i64 y.pe,.slice q1 y.place.length d1,.int .i64 y.to,.int .i64 y.ne,.bool y.hi,.int .i64 y.fl,.slice q2 y.pins.length d2,.slice q3 ny d3]] w0 fun e w'=>e=.returned (.bool (decide (oq x y)))∧Below w0.heap.size w0 w':=by
 refine iZ Tryz.func53 rfl Tryz.ntmps53 fun Y U =>?_
 have m0:=MemOk.start (fun _=>False) w0
 refine zsr fun K0 hK0=>plz<|iu U m0 20 (cs:=[_,_,_,_,_,_,_,_,_,_,_]) rfl rfl rfl fun g1 Y w2 U m2 _ _=>plz<|iu U m2 21 (cs:=[_,_,_,_,_,_,_,_,_,_,_]) rfl rfl rfl fun g3 Y w4 U m4 _ _=>gz hK0 U (.assign rfl .nil) fun Y U=>zsr fun K1 hK1=>g9 U (.fa 0 rfl U51<|.lb m4 20 U3 rfl rfl rfl<|.fa 0 rfl U51<|.lb m4 21 U3 rfl rfl rfl<|.eql rfl rfl<|.move rfl .nil) fun Y U=>bc U 10 ?_ ?_
 ·
  intro aa U;try simp only [QQ,Qax] at aa
  refine g9 U (.faZ 1 rfl U51<|.loadB1Z m4 (i:=20) rfl rfl rfl U3 rfl<|.faZ 1 rfl U51<|.loadB1Z m4 (i:=21) rfl rfl rfl U3 rfl<|.eqlZ rfl rfl<|.pickT rfl rfl<|.move rfl .nil) fun Y U=>bc U 17 ?_ ?_
  ·
   intro ab U;try simp only [QQ,Qax] at ab
   refine g9 U (.faZ 2 rfl U51<|.loadB1Z m4 (i:=20) rfl rfl rfl U3 rfl<|.faZ 2 rfl U51<|.loadB1Z m4 (i:=21) rfl rfl rfl U3 rfl<|.eqlZ rfl rfl<|.pickT rfl rfl<|.move rfl .nil) fun Y U=>bc U 24 ?_ ?_
   ·
    intro ac U;try simp only [QQ,Qax] at ac
    refine g9 U (.faZ 3 rfl U51<|.loadB1Z m4 (i:=20) rfl rfl rfl U3 rfl<|.faZ 3 rfl U51<|.loadB1Z m4 (i:=21) rfl rfl rfl U3 rfl<|.eqlZ rfl rfl<|.pickT rfl rfl<|.move rfl .nil) fun Y U=>bc U 31 ?_ ?_
    ·
     intro ad U;try simp only [QQ,Qax] at ad
     refine g9 U (.faZ 4 rfl U51<|.loadB1Z m4 (i:=20) rfl rfl rfl U35 rfl<|.faZ 4 rfl U51<|.loadB1Z m4 (i:=21) rfl rfl rfl U35 rfl .nil) fun Y U=>stz U (ecb U Tryz.func103 rfl m4 (msI x.place y.place _ _ _ _ _ hx.1 hy.1 ((h1.now' m4 rfl).any) ((h4.now' m4 rfl).any)) fun Y ah U ag =>?_)
     refine g9 U (.pickT rfl rfl<|.move rfl .nil) fun Y U=>bc U 38 ?_ ?_
     ·
      intro ae U;try simp only [QQ,Qax] at ae
      refine gz hK1 U (.faZ 5 rfl U51<|.loadB1Z ag (i:=20) rfl rfl rfl U3 rfl<|.faZ 5 rfl U51<|.loadB1Z ag (i:=21) rfl rfl rfl U3 rfl<|.eqlZ rfl rfl<|.pickT rfl rfl<|.assign rfl<|.nil) fun Y U=>rt1 U ?_
      exact⟨congrArg (fun b9=>Ending.returned (.bool b9)) (by simp [oq,aa,ab,ac,ad,ae]),ag.below⟩
     intro ae U;try simp only [QQ,Qax] at ae
     refine gz hK1 U (.sk<|.sk<|.sk<|.sk<|.sk<|.pickF rfl rfl<|.assign rfl<|.nil) fun Y U=>rt1 U ?_
     exact⟨congrArg (fun b9=>Ending.returned (.bool b9)) (by simp [oq,aa,ab,ac,ad,ae]),ag.below⟩
    intro ad U;try simp only [QQ,Qax] at ad
    refine gz hK1 U (.sk<|.sk<|.sk<|.sk<|.sk<|.pickF rfl rfl<|.move rfl<|.sk<|.sk<|.sk<|.sk<|.sk<|.pickF rfl rfl<|.assign rfl<|.nil) fun Y U=>rt1 U ?_
    exact⟨congrArg (fun b9=>Ending.returned (.bool b9)) (by simp [oq,aa,ab,ac,ad]),m4.below⟩
   intro ac U;try simp only [QQ,Qax] at ac
   refine gz hK1 U (.sk<|.sk<|.sk<|.sk<|.sk<|.pickF rfl rfl<|.move rfl<|.sk<|.sk<|.sk<|.sk<|.sk<|.pickF rfl rfl<|.move rfl<|.sk<|.sk<|.sk<|.sk<|.sk<|.pickF rfl rfl<|.assign rfl<|.nil) fun Y U=>rt1 U ?_
   exact⟨congrArg (fun b9=>Ending.returned (.bool b9)) (by simp [oq,aa,ab,ac]),m4.below⟩
  intro ab U;try simp only [QQ,Qax] at ab
  refine gz hK1 U (.sk<|.sk<|.sk<|.sk<|.sk<|.pickF rfl rfl<|.move rfl<|.sk<|.sk<|.sk<|.sk<|.sk<|.pickF rfl rfl<|.move rfl<|.sk<|.sk<|.sk<|.sk<|.sk<|.pickF rfl rfl<|.move rfl<|.sk<|.sk<|.sk<|.sk<|.sk<|.pickF rfl rfl<|.assign rfl<|.nil) fun Y U=>rt1 U ?_
  exact⟨congrArg (fun b9=>Ending.returned (.bool b9)) (by simp [oq,aa,ab]),m4.below⟩
 intro aa U;try simp only [QQ,Qax] at aa
 refine gz hK1 U (.sk<|.sk<|.sk<|.sk<|.sk<|.pickF rfl rfl<|.move rfl<|.sk<|.sk<|.sk<|.sk<|.sk<|.pickF rfl rfl<|.move rfl<|.sk<|.sk<|.sk<|.sk<|.sk<|.pickF rfl rfl<|.move rfl<|.sk<|.sk<|.sk<|.sk<|.sk<|.pickF rfl rfl<|.move rfl<|.sk<|.sk<|.sk<|.sk<|.sk<|.pickF rfl rfl<|.assign rfl<|.nil) fun Y U=>rt1 U ?_
 exact⟨congrArg (fun b9=>Ending.returned (.bool b9)) (by simp [oq,aa]),m4.below⟩
theorem zm(x y:VolV)(p1 p2 p3 q1 q2 q3 c1 c2 c3 d1 d2 d3 nx ny)(w0:World)(hx:tZ x)(hy:tZ y)(h1:Rd (fun _=>True) w0 (.slice p1 x.place.length c1) (.ns .i64 x.place))(h2:Rd (fun _=>True) w0 (.slice p2 x.pins.length c2) (.ns .i64 x.pins))(h3:Rd (fun _=>True) w0 (.slice p3 nx c3) (.l 2 (x.ws.map wrD)))(h4:Rd (fun _=>True) w0 (.slice q1 y.place.length d1) (.ns .i64 y.place))(h5:Rd (fun _=>True) w0 (.slice q2 y.pins.length d2) (.ns .i64 y.pins))(h6:Rd (fun _=>True) w0 (.slice q3 ny d3) (.l 2 (y.ws.map wrD))) :
   Calls Tryz.prog 20 #[.agg #[.int .i64 x.vo,.int .i64 x.bl,.int .i64 x.sz,.int .i64 x.pe,.slice p1 x.place.length c1,.int .i64 x.to,.int .i64 x.ne,.bool x.hi,.int .i64 x.fl,.slice p2 x.pins.length c2,.slice p3 nx c3],.agg #[.int .i64 y.vo,.int .i64 y.bl,.int .i64 y.sz,.int .i64 y.pe,.slice q1 y.place.length d1,.int .i64 y.to,.int .i64 y.ne,.bool y.hi,.int .i64 y.fl,.slice q2 y.pins.length d2,.slice q3 ny d3]] w0 fun e w'=>e=.returned (.bool (decide (uX x y)))∧Below w0.heap.size w0 w':=by
 refine iZ Tryz.func20 rfl Tryz.ntmps20 fun Y U =>?_
 have m0:=MemOk.start (fun _=>False) w0
 refine zsr fun K0 hK0=>plz<|iu U m0 20 (cs:=[_,_,_,_,_,_,_,_,_,_,_]) rfl rfl rfl fun g1 Y w2 U m2 _ _=>plz<|iu U m2 21 (cs:=[_,_,_,_,_,_,_,_,_,_,_]) rfl rfl rfl fun g3 Y w4 U m4 _ _=>gz hK0 U (.assign rfl .nil) fun Y U=>zsr fun K1 hK1=>g9 U (.loadBR m4 (i:=20) rfl rfl U51 rfl hH (by simp) (by dsimp only [List.drop,List.take] <;> rfl)<|.loadBR m4 (i:=21) rfl rfl U51 rfl hH (by simp) (by dsimp only [List.drop,List.take] <;> rfl) .nil) fun Y U=>plz<|ecb U Tryz.func53 rfl m4 (zq x y _ _ _ _ _ _ _ _ _ _ _ _ _ _ _ hx hy ((h1.now' m4 rfl).any) ((h4.now' m4 rfl).any)) fun Y aj U ad=>g9 U (.move rfl .nil) fun Y U=>bc U 8 ?_ ?_
 ·
  intro ab U;try simp only [QQ,Qax] at ab
  refine g9 U (.faZ 6 rfl U51<|.loadB1Z ad (i:=20) rfl rfl rfl U3 rfl<|.faZ 6 rfl U51<|.loadB1Z ad (i:=21) rfl rfl rfl U3 rfl<|.eqlZ rfl rfl<|.pickT rfl rfl<|.move rfl .nil) fun Y U=>bc U 15 ?_ ?_
  ·
   intro ac U;try simp only [QQ,Qax] at ac
   refine g9 U (.faZ 7 rfl U51<|.loadB1Z ad (i:=20) rfl rfl rfl U4 rfl<|.faZ 7 rfl U51<|.loadB1Z ad (i:=21) rfl rfl rfl U4 rfl<|.eqlBZ rfl rfl U4<|.pickT rfl rfl<|.move rfl .nil) fun Y U=>bc U 22 ?_ ?_
   ·
    intro aa U;try simp only [QQ,Qax] at aa
    replace aa:=beq_iff_eq.1 aa
    refine g9 U (.faZ 8 rfl U51<|.loadB1Z ad (i:=20) rfl rfl rfl U2 rfl<|.faZ 8 rfl U51<|.loadB1Z ad (i:=21) rfl rfl rfl U2 rfl<|.eqlZ rfl rfl<|.pickT rfl rfl<|.move rfl .nil) fun Y U=>bc U 29 ?_ ?_
    ·
     intro ae U;try simp only [QQ,Qax] at ae
     refine g9 U (.faZ 9 rfl U51<|.loadB1Z ad (i:=20) rfl rfl rfl U48 rfl<|.faZ 9 rfl U51<|.loadB1Z ad (i:=21) rfl rfl rfl U48 rfl .nil) fun Y U=>stz U (ecb U Tryz.func54 rfl ad (msP x.pins y.pins _ _ _ _ _ hx.2.1 hy.2.1 ((h2.now' ad rfl).any) ((h5.now' ad rfl).any)) fun Y ak U ah =>?_)
     refine g9 U (.pickT rfl rfl<|.move rfl .nil) fun Y U=>bc U 36 ?_ ?_
     ·
      intro ag U;try simp only [QQ,Qax] at ag
      refine g9 U (.faZ 10 rfl U51<|.loadB1Z ah (i:=20) rfl rfl rfl U49 rfl<|.faZ 10 rfl U51<|.loadB1Z ah (i:=21) rfl rfl rfl U49 rfl .nil) fun Y U=>stz U (ecb U Tryz.func55 rfl ah (zp x.ws y.ws _ _ _ _ _ _ _ ((h3.now' ah rfl).any) ((h6.now' ah rfl).any) hx.2.2.1 hy.2.2.1 hx.2.2.2 hy.2.2.2) fun Y al U ai =>?_)
      refine gz hK1 U (.pickT rfl rfl<|.assign rfl<|.nil) fun Y U=>rt1 U ?_
      exact⟨congrArg (fun b9=>Ending.returned (.bool b9)) (by simp [uX,oq,ab,ac,aa,ae,ag]),ai.below⟩
     intro ag U;try simp only [QQ,Qax] at ag
     refine gz hK1 U (.sk<|.sk<|.sk<|.sk<|.sk<|.pickF rfl rfl<|.assign rfl<|.nil) fun Y U=>rt1 U ?_
     exact⟨congrArg (fun b9=>Ending.returned (.bool b9)) (by simp [uX,oq,ab,ac,aa,ae,ag]),ah.below⟩
    intro ae U;try simp only [QQ,Qax] at ae
    refine gz hK1 U (.sk<|.sk<|.sk<|.sk<|.sk<|.pickF rfl rfl<|.move rfl<|.sk<|.sk<|.sk<|.sk<|.sk<|.pickF rfl rfl<|.assign rfl<|.nil) fun Y U=>rt1 U ?_
    exact⟨congrArg (fun b9=>Ending.returned (.bool b9)) (by simp [uX,oq,ab,ac,aa,ae]),ad.below⟩
   intro aa U;try simp only [QQ,Qax] at aa
   replace aa:=beq_eq_false_iff_ne.1 aa
   refine gz hK1 U (.sk<|.sk<|.sk<|.sk<|.sk<|.pickF rfl rfl<|.move rfl<|.sk<|.sk<|.sk<|.sk<|.sk<|.pickF rfl rfl<|.move rfl<|.sk<|.sk<|.sk<|.sk<|.sk<|.pickF rfl rfl<|.assign rfl<|.nil) fun Y U=>rt1 U ?_
   exact⟨congrArg (fun b9=>Ending.returned (.bool b9)) (by simp [uX,oq,ab,ac,aa]),ad.below⟩
  intro ac U;try simp only [QQ,Qax] at ac
  refine gz hK1 U (.sk<|.sk<|.sk<|.sk<|.sk<|.pickF rfl rfl<|.move rfl<|.sk<|.sk<|.sk<|.sk<|.sk<|.pickF rfl rfl<|.move rfl<|.sk<|.sk<|.sk<|.sk<|.sk<|.pickF rfl rfl<|.move rfl<|.sk<|.sk<|.sk<|.sk<|.sk<|.pickF rfl rfl<|.assign rfl<|.nil) fun Y U=>rt1 U ?_
  exact⟨congrArg (fun b9=>Ending.returned (.bool b9)) (by simp [uX,oq,ab,ac]),ad.below⟩
 intro ab U;try simp only [QQ,Qax] at ab
 refine gz hK1 U (.sk<|.sk<|.sk<|.sk<|.sk<|.pickF rfl rfl<|.move rfl<|.sk<|.sk<|.sk<|.sk<|.sk<|.pickF rfl rfl<|.move rfl<|.sk<|.sk<|.sk<|.sk<|.sk<|.pickF rfl rfl<|.move rfl<|.sk<|.sk<|.sk<|.sk<|.sk<|.pickF rfl rfl<|.move rfl<|.sk<|.sk<|.sk<|.sk<|.sk<|.pickF rfl rfl<|.assign rfl<|.nil) fun Y U=>rt1 U ?_
 exact⟨congrArg (fun b9=>Ending.returned (.bool b9)) (by simp [uX,oq,ab]),ad.below⟩
end
section
theorem jS(xs:List Int)(q:Option Addr)(cq)(w0:World)(h0:Rd (fun _=>True) w0 (.slice q xs.length cq) (.ns .i64 xs))(hl:xs.length≤1000000)(hxb:∀ k,k<xs.length→0≤xs.getD k 0∧xs.getD k 0≤9223372036854775807) :
   Calls Tryz.prog 57 #[.slice q xs.length cq] w0 fun e w' => ∃ (p:Option Addr) (c:Nat),e=.returned (.slice p (im xs).length c)∧w'.ownsRow w0.heap.size 5 1 (.slice p (im xs).length c) (im xs).length ((im xs).map (Value.int .u8))∧Below w0.heap.size w0 w':=by
 refine i9 Tryz.func57 rfl Tryz.ntmps57 fun Y U =>?_
 have m0:=MemOk.start (fun _=>False) w0
 refine hC U (.assign rfl .nil) fun Y U=>hC U (.assign rfl .nil) fun Y U=>wsk fun K0 hK0=>hC U (.move rfl<|.len rfl U35<|.move rfl .nil) fun Y U=>wp_block<|wp_loop_ghost (fun g a w => ∃ (k:Nat) (b:List Int) (p:Option Addr) (c:Nat),k≤xs.length∧g=xs.length - k∧b=im (xs.take k)∧Has 20 [(3,.slice p b.length c),(6,.slice q xs.length cq),(7,.int .i64 xs.length),(8,.int .i64 k)] a∧MemOk (cn w0) w0 [(9,.num (.slice p b.length c) 5 .u8 b)] w) (xs.length) ?_ ?_
 · have mz:=m0.nilN 9 5 .u8
   exact⟨0,[],_,_,Nat.zero_le _,rfl,rfl,U.only [3,6,7,8],mz.only [9]⟩
 clear U m0
 rintro g Y w6 ⟨k,b,p,c,hkl,hg,hbe,U,m6⟩
 refine hC U (.lss rfl rfl .nil) fun Y U=>wsk fun K1 hK1=>bc U 9 ?_ ?_
 ·
  intro hb8 U;try simp only [QQ,Qax] at hb8
  have hk:k<xs.length:=by have:=hb8;first|omega|(simp at this;omega)
  have hxk:=hxb k hk
  refine wct U<|zss<|hK1 _ _<|wsk fun K2 hK2=>wp_block<|zsr fun K3 hK3 =>?_
  obtain⟨ae,ag,ab,ah,aa⟩:=h0.extN (k) hk
  revert U
  cases ab
  intro U
  refine gz hK3 U (.c rfl (fun _ h_=>ii h_ rfl rfl U35 iG (k) rfl hk)<|.loadAt1 (aa m6 rfl) (q:=0) rfl rfl rfl U3 rfl<|.assign rfl<|.nil) fun Y U=>wp_region_lit<|g9 U (.move rfl<|.move rfl<|.conv rfl U3 jV (r:=xs.getD k 0) (IntWalk.u64_in _ (by omega)) .nil) fun Y U=>plz (iv U m6 100 (k:=.u64) rfl rfl tX pW rfl rfl rfl rfl fun ak Y al U ai =>?_)
  have ac:=ai.freezeN 100 rfl
  refine plz<|ecn U Tryz.func104 rfl ac 101 (rh _ [xs.getD k 0] _ ((ac.rd (i:=100) rfl).any) (by simp) (oy (by omega))) fun ao ap Y aq U ad=>plz<|iC U ad 9 rfl rfl rfl (ad.numsO (i:=101) rfl) U22 jU (by decide) (by rw[hbe];have h8:=ic (xs.take k);rw[List.length_take] at h8;have h9:=ic [xs.getD k 0];rw[List.length_singleton] at h9;omega) rfl fun ar au Y av U aj=>gz hK2 U (.assign rfl .nil) fun Y U =>?_
  replace U:=U.oz [3,6,7,8]
  refine wp_region_lit<|g9 U (.inc (k+1)<|.move rfl .nil) fun Y U=>wpList_nil ?_
  show ∃ n',n'<_∧_
  exact⟨xs.length - (k+1),by omega,k+1,_,_,_,by omega,rfl,by rw[jH _ _ hk,← hbe,jl],U.only [3,6,7,8],aj.only [9]⟩
 intro hb8 U;try simp only [QQ,Qax] at hb8
 revert U
 obtain rfl:k=xs.length:=by have:=hb8;first|omega|(simp at this;omega)
 intro U
 refine wcf U<|wp_exit<|hK0 _ _<|hC U (.move rfl<|.assign rfl .nil) fun Y U=>rt1 U ?_
 rw[List.take_length] at hbe
 revert U
 subst hbe
 intro U
 exact⟨_,_,rfl,m6.ok 9 _ rfl,m6.below⟩
theorem vd(xs:List Int)(q:Option Addr)(cq)(w0:World)(h0:Rd (fun _=>True) w0 (.slice q xs.length cq) (.ns .i64 xs))(hl:xs.length≤1000000)(hxb:∀ k,k<xs.length→0≤xs.getD k 0∧xs.getD k 0≤9223372036854775807) :
   Calls Tryz.prog 138 #[.slice q xs.length cq] w0 fun e w' => ∃ (p:Option Addr) (c:Nat),e=.returned (.slice p (im xs).length c)∧w'.ownsRow w0.heap.size 5 1 (.slice p (im xs).length c) (im xs).length ((im xs).map (Value.int .u8))∧Below w0.heap.size w0 w':=by
 refine i9 Tryz.func138 rfl Tryz.ntmps138 fun Y U =>?_
 have m0:=MemOk.start (fun _=>False) w0
 refine hC U (.assign rfl .nil) fun Y U=>hC U (.assign rfl .nil) fun Y U=>wsk fun K0 hK0=>hC U (.move rfl<|.len rfl U48<|.move rfl .nil) fun Y U=>wp_block<|wp_loop_ghost (fun g a w => ∃ (k:Nat) (b:List Int) (p:Option Addr) (c:Nat),k≤xs.length∧g=xs.length - k∧b=im (xs.take k)∧Has 20 [(3,.slice p b.length c),(6,.slice q xs.length cq),(7,.int .i64 xs.length),(8,.int .i64 k)] a∧MemOk (cn w0) w0 [(9,.num (.slice p b.length c) 5 .u8 b)] w) (xs.length) ?_ ?_
 · have mz:=m0.nilN 9 5 .u8
   exact⟨0,[],_,_,Nat.zero_le _,rfl,rfl,U.only [3,6,7,8],mz.only [9]⟩
 clear U m0
 rintro g Y w6 ⟨k,b,p,c,hkl,hg,hbe,U,m6⟩
 refine hC U (.lss rfl rfl .nil) fun Y U=>wsk fun K1 hK1=>bc U 9 ?_ ?_
 ·
  intro hb8 U;try simp only [QQ,Qax] at hb8
  have hk:k<xs.length:=by have:=hb8;first|omega|(simp at this;omega)
  have hxk:=hxb k hk
  refine wct U<|zss<|hK1 _ _<|wsk fun K2 hK2=>wp_block<|zsr fun K3 hK3 =>?_
  obtain⟨ae,ag,ab,ah,aa⟩:=h0.extN (k) hk
  revert U
  cases ab
  intro U
  refine gz hK3 U (.c rfl (fun _ h_=>ii h_ rfl rfl U48 iP (k) rfl hk)<|.loadAt1 (aa m6 rfl) (q:=0) rfl rfl rfl U2 rfl<|.assign rfl<|.nil) fun Y U=>wp_region_lit<|g9 U (.move rfl<|.move rfl<|.conv rfl U2 jV (r:=xs.getD k 0) (IntWalk.u64_in _ (by omega)) .nil) fun Y U=>plz (iv U m6 100 (k:=.u64) rfl rfl tX pW rfl rfl rfl rfl fun ak Y al U ai =>?_)
  have ac:=ai.freezeN 100 rfl
  refine plz<|ecn U Tryz.func104 rfl ac 101 (rh _ [xs.getD k 0] _ ((ac.rd (i:=100) rfl).any) (by simp) (oy (by omega))) fun ao ap Y aq U ad=>plz<|iC U ad 9 rfl rfl rfl (ad.numsO (i:=101) rfl) U22 jU (by decide) (by rw[hbe];have h8:=ic (xs.take k);rw[List.length_take] at h8;have h9:=ic [xs.getD k 0];rw[List.length_singleton] at h9;omega) rfl fun ar au Y av U aj=>gz hK2 U (.assign rfl .nil) fun Y U =>?_
  replace U:=U.oz [3,6,7,8]
  refine wp_region_lit<|g9 U (.inc (k+1)<|.move rfl .nil) fun Y U=>wpList_nil ?_
  show ∃ n',n'<_∧_
  exact⟨xs.length - (k+1),by omega,k+1,_,_,_,by omega,rfl,by rw[jH _ _ hk,← hbe,jl],U.only [3,6,7,8],aj.only [9]⟩
 intro hb8 U;try simp only [QQ,Qax] at hb8
 revert U
 obtain rfl:k=xs.length:=by have:=hb8;first|omega|(simp at this;omega)
 intro U
 refine wcf U<|wp_exit<|hK0 _ _<|hC U (.move rfl<|.assign rfl .nil) fun Y U=>rt1 U ?_
 rw[List.take_length] at hbe
 revert U
 subst hbe
 intro U
 exact⟨_,_,rfl,m6.ok 9 _ rfl,m6.below⟩
end
end Go.Proofs.YtkehgingagggaaaGreat.K
