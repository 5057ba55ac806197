/- General laws of walks. -/
import Derived.Test.YtkehgingagggaaaGreatG4
import Derived.Test.YtkehgingagggaaaGreatG6
namespace Go.Proofs.YtkehgingagggaaaGreat.K
open Go.ChangeShapes Go.WideShapes Go.ChangeAt Go.RowKit
set_option linter.unusedVariables false
set_option linter.unusedSimpArgs false
set_option maxRecDepth 100000
set_option maxHeartbeats 4000000
set_option autoImplicit true
set_option relaxedAutoImplicit true
section
abbrev i0:Int×List Int:=(0,[])
theorem rX{l:List (Int×List Int)}{e:Int×List Int}(h:l[k]? = some e):l.getD k i0=e:=by rw[List.getD,h];rfl
theorem rY{l:List (Int×List Int)}{xb yb:Int}(h:∀ j,j<k→(l.getD j i0).1≠xb)(hes:l[k]? = some (yb,yd))(hne:¬ yb=xb):∀ j,j<k+1→(l.getD j i0).1≠xb:=fun j hj=>by
 rcases Nat.lt_or_ge j k with h1|h1
 · exact h j h1
 obtain rfl:j=k:=by omega
 rw[rX hes];exact hne
def l9(bl sz:Int)(l:List (Int×List Int))(k:Nat):Prop:=∀ j,j<k→0≤(l.getD j i0).1∧(l.getD j i0).1<bl∧((l.getD j i0).2.length:Int)=sz∧¬ ∃ e∈l.take j,e.1=(l.getD j i0).1
def kb(bl sz:Int)(l:List (Int×List Int)):Prop:=1≤l.length∧l.length≤8∧l9 bl sz l l.length
theorem mL{bl sz:Int}{l:List (Int×List Int)}{yb:Int}{yd:List Int}(h:l9 bl sz l k)(hes:l[k]? = some (yb,yd))(hb:0≤yb∧yb<bl)(hs:(yd.length:Int)=sz)(hn:¬ ∃ e∈l.take k,e.1=yb):l9 bl sz l (k+1):=fun j hj=>by
 rcases Nat.lt_or_ge j k with h1|h1
 · exact h j h1
 obtain rfl:j=k:=by omega
 rw[rX hes];exact⟨hb.1,hb.2,hs,hn⟩
theorem tP(X B xb yb px py)(nx cx ny cy:Nat)(w0)(m0:MemOk X w0 [(2,.box B 59 [.int .i64 xb,.slice px nx cx])] w0) :
   Calls Tryz.prog 166 #[.agg #[.int .i64 yb,.slice py ny cy],.pointer (some ⟨B,0,none⟩)] w0 fun e w'=>e=.returned (.bool (decide (yb=xb)))∧MemOk X w0 [(2,.box B 59 [.int .i64 xb,.slice px nx cx])] w':=by
 refine iZ Tryz.func166 rfl Tryz.ntmps166 fun Y U=>zsr fun K0 hK0=>plz<|iu U m0 20 (cs:=[_,_]) rfl rfl rfl fun g1 Y w2 U m2 _ _=>gz hK0 U (.assign rfl .nil) fun Y U=>hC U (.fa 0 rfl U59<|.lb m2 20 U3 rfl rfl rfl<|.fa 0 rfl U59<|.lb m2 2 U3 rfl rfl rfl<|.eql rfl rfl<|.assign rfl .nil) fun Y U=>rt1 U ?_
 exact⟨rfl,m2.only [2]⟩
theorem sg(X B)(l:List (Int×List Int))(xb p px)(nn c nx cx:Nat)(w0)(hl:l.length≤1000000)(hnn:nn=l.length)(m0:MemOk X w0 [(1,.dat (.slice p nn c) (.l 2 (l.map itD))),(2,.box B 59 [.int .i64 xb,.slice px nx cx])] w0) :
   Calls Tryz.prog 182 #[.slice p nn c,.func (.func 166) #[] #[.pointer (some ⟨B,0,none⟩)]] w0 fun e w' => ∃ q:Int,e=.returned (.int .i64 q)∧(0≤q↔∃ e∈l,e.1=xb)∧MemOk X w0 [(1,.dat (.slice p nn c) (.l 2 (l.map itD))),(2,.box B 59 [.int .i64 xb,.slice px nx cx])] w':=by
 subst hnn
 refine iZ Tryz.func182 rfl Tryz.ntmps182 fun Y U=>hC U (.assign rfl .nil) fun Y U=>wsk fun K0 hK0=>hC U (.move rfl<|.len rfl U36<|.move rfl .nil) fun Y U=>wp_block<|wp_loop_ghost (fun g a w => ∃ (k:Nat),k≤l.length∧g=l.length - k∧(∀ j,j<k→(l.getD j i0).1≠xb)∧Has 19 [(0,.slice p l.length c),(1,.func (.func 166) #[] #[.pointer (some ⟨B,0,none⟩)]),(7,.int .i64 l.length),(8,.int .i64 k)] a∧MemOk X w0 [(1,.dat (.slice p l.length c) (.l 2 (l.map itD))),(2,.box B 59 [.int .i64 xb,.slice px nx cx])] w) (l.length) ?_ ?_
 · exact⟨0,Nat.zero_le _,rfl,(fun j hj=>by omega),U.only [0,1,7,8],m0.only [1,2]⟩
 clear U m0
 rintro g Y w5 ⟨k,hkl,hg,hall,U,m5⟩
 refine hC U (.lss rfl rfl .nil) fun Y U=>wsk fun K1 hK1=>bc U 9 ?_ ?_
 ·
  intro hb7 U;try simp only [QQ,Qax] at hb7
  have hk:k<l.length:=by omega
  obtain⟨⟨yb,yd⟩,hes⟩:∃ e,l[k]? = some e:=⟨_,List.getElem?_eq_getElem hk⟩
  refine wct U<|zss<|hK1 _ _<|wsk fun K2 hK2=>wp_block<|hC U (.move rfl<|.assign rfl .nil) fun Y U=>zsr fun K3 hK3=>g9 U (.move rfl<|.move rfl<|.move rfl .nil) fun Y U =>?_
  obtain⟨ar,au,ap,ag,ah,ai,al⟩:=m5.openR (i:=1) rfl (k) (r:=[.v (.int .i64 yb),.ns .u8 yd]) (iB hes) 100 rfl
  revert U
  cases ag;clear m5 ai
  rcases ah with _|⟨ab,_|⟨aa,_|_⟩⟩
  obtain rfl:=ab.v_out
  clear ab
  obtain⟨av,aw,aj,aq⟩:=aa.ns_shape;subst aj
  intro U
  have ae:=al.dat 101 rfl (aa.cast (fun _ h=>(ia rfl h)));clear al aa
  refine g9 U (.c rfl (fun _ h_=>ii h_ rfl rfl U36 jA (k) rfl hk)<|.loadCR ae (i:=100) rfl rfl U59 rfl jA .nil) fun Y U=>plz (uo U rfl Tryz.func166 rfl rfl rfl rfl (tP _ _ _ _ _ _ _ _ _ _ _ (ae.into [(2,2)] (by decide) rfl)) ?_)
  rintro e ax ⟨rfl,ad⟩
  have ak:=ae.back ad [(2,2)] (by decide);clear ad ae
  have ao:=ak.oz [2,1,100,101]
  refine⟨_,rfl,?_⟩;intro Y U
  refine znl<|hK3 _ _<|bc U 16 ?_ ?_
  ·
   intro ac U;try simp only [QQ,Qax] at ac
   refine wct U ?_
   replace U:=U.oz [0,1,7,8,5,16]
   refine hC U (.move rfl<|.assign rfl .nil) fun Y U=>rt1 U ?_
   exact⟨_,rfl,iff_of_true (by omega) ⟨_,List.mem_of_getElem? hes,ac⟩,ao.only [1,2]⟩
  intro ac U;try simp only [QQ,Qax] at ac
  refine wcf U<|zss (hK2 _ _ ?_)
  replace U:=U.oz [0,1,7,8,16]
  refine wp_region_lit<|g9 U (.inc (k+1)<|.move rfl .nil) fun Y U=>wpList_nil ?_
  show ∃ n',n'<_∧_
  exact⟨l.length - (k+1),by omega,k+1,by omega,rfl,rY hall hes ac,U.only [0,1,7,8],ao.only [1,2]⟩
 intro hb7 U;try simp only [QQ,Qax] at hb7
 revert U
 obtain rfl:k=l.length:=by omega
 intro U
 refine wcf U<|wp_exit<|hK0 _ _<|hC U (.assign rfl .nil) fun Y U=>rt1 U ?_
 exact⟨_,rfl,iff_of_false (by omega) (fun h=>by obtain⟨e9,h1,h2⟩:=h;obtain⟨j,hj,rfl⟩:=List.getElem_of_mem h1;have:=hall j hj;rw[List.getD,List.getElem?_eq_getElem hj] at this;exact this h2),m5.only [1,2]⟩
theorem tQ(X B)(l:List (Int×List Int))(xb p px)(nn c nx cx:Nat)(w0)(hl:l.length≤1000000)(hnn:nn=l.length)(m0:MemOk X w0 [(1,.dat (.slice p nn c) (.l 2 (l.map itD))),(2,.box B 59 [.int .i64 xb,.slice px nx cx])] w0) :
   Calls Tryz.prog 165 #[.slice p nn c,.func (.func 166) #[] #[.pointer (some ⟨B,0,none⟩)]] w0 fun e w' => ∃ b:Bool,e=.returned (.bool b)∧(b=true↔∃ e∈l,e.1=xb)∧MemOk X w0 [(1,.dat (.slice p nn c) (.l 2 (l.map itD))),(2,.box B 59 [.int .i64 xb,.slice px nx cx])] w':=by
 subst hnn
 refine iZ Tryz.func165 rfl Tryz.ntmps165 fun Y U=>hC U (.assign rfl .nil) fun Y U=>zsr fun K0 hK0=>g9 U (.move rfl<|.move rfl .nil) fun Y U=>plz (ecl U Tryz.func182 rfl (sg _ _ l _ _ _ _ _ _ _ _ (by omega) rfl (m0.into [(1,1),(2,2)] (by decide) rfl)) ?_)
 rintro e w6 ⟨q,rfl,hq,hm6⟩
 have mx6:=m0.back hm6 [(1,1),(2,2)] (by decide);clear hm6 m0
 have m6:=mx6.oz [1,2]
 refine⟨_,rfl,?_⟩;intro Y U
 refine gz hK0 U (.geq rfl rfl<|.assign rfl<|.nil) fun Y U=>rt1 U ?_
 exact⟨_,rfl,by rw[decide_eq_true_eq];exact hq,m6.only [1,2]⟩
theorem qo(bl sz)(l:List (Int×List Int))(p)(c:Nat)(w0:World)(h0:Rd (fun _=>True) w0 (.slice p l.length c) (.l 2 (l.map itD)))(hl:l.length≤1000000) :
   Calls Tryz.prog 139 #[.int .i64 bl,.int .i64 sz,.slice p l.length c] w0 fun e w' => ∃ b:Bool,e=.returned (.bool b)∧(b=true↔kb bl sz l)∧Below w0.heap.size w0 w':=by
 have hcap:l.length≤c:=by obtain⟨pq,cq,hv,hcap⟩:=h0.l_shape;injection hv with _ _ e3;rw[List.length_map] at hcap;omega
 refine uI Tryz.func139 rfl Tryz.ntmps139 fun Y U =>?_
 have m0:=(MemOk.start (fun _=>True) w0).dat 1 rfl (h0.cast (fun _ _=>lu (fun _=>trivial)))
 refine hC U (.assign rfl .nil) fun Y U=>wsk fun K0 hK0=>hC U (.move rfl<|.len rfl U36<|.move rfl .nil) fun Y U=>wp_block<|wp_loop_ghost (fun g a w => ∃ (k:Nat),k≤l.length∧g=l.length - k∧l9 bl sz l k∧Has 46 [(0,.int .i64 bl),(1,.int .i64 sz),(2,.slice p l.length c),(9,.slice p l.length c),(10,.int .i64 l.length),(11,.int .i64 k)] a∧MemOk (cx (fun _=>True) w0) w0 [(1,.dat (.slice p l.length c) (.l 2 (l.map itD)))] w) (l.length) ?_ ?_
 · exact⟨0,Nat.zero_le _,rfl,(fun j hj=>by omega),U.only [0,1,2,9,10,11],m0.only [1]⟩
 clear U m0
 rintro g Y w5 ⟨k,hkl,hg,hall,U,m5⟩
 refine hC U (.lss rfl rfl .nil) fun Y U=>wsk fun K1 hK1=>bc U 12 ?_ ?_
 ·
  intro hb7 U;try simp only [QQ,Qax] at hb7
  have hk:k<l.length:=by omega
  obtain⟨⟨yb,yd⟩,hes⟩:∃ e,l[k]? = some e:=⟨_,List.getElem?_eq_getElem hk⟩
  refine wct U<|zss<|hK1 _ _<|wsk fun K2 hK2=>wp_block<|zsr fun K3 hK3=>g9 U (.move rfl .nil) fun Y U =>?_
  obtain⟨aA,aB,ax,al,ao,ap,au⟩:=m5.openR (i:=1) rfl (k) (r:=[.v (.int .i64 yb),.ns .u8 yd]) (iB hes) 100 rfl
  revert U
  cases al;clear m5 ap
  rcases ao with _|⟨ab,_|⟨aa,_|_⟩⟩
  obtain rfl:=ab.v_out
  clear ab
  obtain⟨aC,aD,aq,ay⟩:=aa.ns_shape;subst aq
  intro U
  have av:=au.dat 101 rfl (aa.cast (fun _ h=>(ia rfl h)));clear au aa
  refine g9 U (.c rfl (fun _ h_=>ii h_ rfl rfl U36 jA (k) rfl hk)<|.loadCR av (i:=100) rfl rfl U59 rfl jA .nil) fun Y U=>plz<|hZ U av 102 qJ rfl fun aE Y aF U az _ _=>g9 U (.assign rfl .nil) fun Y U=>plz (stw U az 102 jA fun aG ac _ =>?_)
  refine znl<|hK3 _ _<|wsk fun K4 hK4=>zsr fun K5 hK5=>g9 U (.fa 0 rfl U59<|.lb ac 102 U3 rfl rfl rfl<|.lss rfl rfl<|.move rfl .nil) fun Y U=>bc U 19 ?_ ?_
  ·
   intro ad U;try simp only [QQ,Qax] at ad
   refine gz hK5 U (.sk<|.sk<|.sk<|.sk<|.pickT rfl rfl<|.move rfl<|.sk<|.sk<|.sk<|.sk<|.sk<|.pickT rfl rfl<|.nil) fun Y U=>wct U ?_
   replace U:=U.oz [0,1,2,9,10,11,12,8,7]
   refine hC U (.assign rfl .nil) fun Y U=>rt1 U ?_
   exact⟨_,rfl,iff_of_false (by simp) (fun h=>by have h9:=h.2.2 k hk;rw[rX hes] at h9;dsimp only at h9;omega),ac.below⟩
  intro ad U;try simp only [QQ,Qax] at ad
  refine g9 U (.faZ 0 rfl U59<|.loadB1Z ac (i:=102) rfl rfl rfl U3 rfl<|.moveZ rfl<|.geqZ rfl rfl<|.pickF rfl rfl<|.move rfl .nil) fun Y U=>bc U 25 ?_ ?_
  ·
   intro ae U;try simp only [QQ,Qax] at ae
   refine gz hK5 U (.sk<|.sk<|.sk<|.sk<|.sk<|.pickT rfl rfl<|.nil) fun Y U=>wct U ?_
   replace U:=U.oz [0,1,2,9,10,11,12,8,7]
   refine hC U (.assign rfl .nil) fun Y U=>rt1 U ?_
   exact⟨_,rfl,iff_of_false (by simp) (fun h=>by have h9:=h.2.2 k hk;rw[rX hes] at h9;dsimp only at h9;omega),ac.below⟩
  intro ae U;try simp only [QQ,Qax] at ae
  refine gz hK5 U (.faZ 1 rfl U59<|.loadB1Z ac (i:=102) rfl rfl rfl U22 rfl<|.lenZ rfl U22<|.moveZ rfl<|.neqZ rfl rfl<|.pickF rfl rfl<|.nil) fun Y U=>bc U 31 ?_ ?_
  ·
   intro ag U;try simp only [QQ,Qax] at ag
   refine wct U ?_
   replace U:=U.oz [0,1,2,9,10,11,12,8,7]
   refine hC U (.assign rfl .nil) fun Y U=>rt1 U ?_
   exact⟨_,rfl,iff_of_false (by simp) (fun h=>by have h9:=h.2.2 k hk;rw[rX hes] at h9;dsimp only at h9;omega),ac.below⟩
  intro ag U;try simp only [QQ,Qax] at ag
  refine wcf U<|zss (hK4 _ _ ?_)
  replace U:=U.oz [0,1,2,9,10,11,12,8,7]
  refine zsr fun K6 hK6=>g9 U (.move rfl<|.move rfl<|.c rfl (fun _ h_=>ji h_ k rfl rfl U36 jA rfl (by omega))<|.makeFunc rfl .nil) fun Y U =>?_
  have ak:=ac.takeR (i:=1) rfl k (by rw[List.length_map];omega) 103 rfl
  rw[← List.map_take] at ak
  refine plz (ecl U Tryz.func165 rfl (tQ _ _ (l.take k) _ _ _ _ _ _ _ _ (by rw[List.length_take];omega) (by rw[List.length_take];omega) (ak.into [(1,103),(2,102)] (by decide) rfl)) ?_)
  rintro e aH ⟨cb,rfl,hcb,aj⟩
  have ar:=ak.back aj [(103,1),(102,2)] (by decide);clear aj ak
  have aw:=ar.oz [103,102,1,100,101]
  refine⟨_,rfl,?_⟩;intro Y U
  refine znl<|hK6 _ _<|bc U 36 ?_ ?_
  ·
   intro ah U;try simp only [QQ,Qax] at ah
   refine wct U ?_
   replace U:=U.oz [0,1,2,9,10,11,12,36]
   refine hC U (.assign rfl .nil) fun Y U=>rt1 U ?_
   exact⟨_,rfl,iff_of_false (by simp) (fun h=>(h.2.2 k hk).2.2.2 (by rw[rX hes];exact hcb.1 (by simp_all))),aw.below⟩
  intro ah U;try simp only [QQ,Qax] at ah
  refine wcf U<|zss (hK2 _ _ ?_)
  replace U:=U.oz [0,1,2,9,10,11,12,36]
  refine wp_region_lit<|g9 U (.inc (k+1)<|.move rfl .nil) fun Y U=>wpList_nil ?_
  show ∃ n',n'<_∧_
  exact⟨l.length - (k+1),by omega,k+1,by omega,rfl,mL hall hes (by omega) (by omega) (fun h=>by have h9:=hcb.2 h;simp_all),U.only [0,1,2,9,10,11],aw.only [1]⟩
 intro hb7 U;try simp only [QQ,Qax] at hb7
 revert U
 obtain rfl:k=l.length:=by omega
 intro U
 refine wcf U<|wp_exit<|hK0 _ _<|zsr fun K7 hK7=>g9 U (.move rfl<|.len rfl U36<|.geq rfl rfl<|.move rfl .nil) fun Y U=>bc U 41 ?_ ?_
 ·
  intro ai U;try simp only [QQ,Qax] at ai
  refine gz hK7 U (.moveZ rfl<|.lenZ rfl U36<|.leqZ rfl rfl<|.pickT rfl rfl<|.assign rfl<|.nil) fun Y U=>rt1 U ?_
  exact⟨_,rfl,by unfold kb;first|(simp;intros;first|exact hall|omega)|(refine iff_of_false (by simp) (fun h =>?_);omega)|(rw[decide_eq_true_eq];exact⟨fun h=>⟨by omega,by omega,hall⟩,fun h=>by omega⟩),m5.below⟩
 intro ai U;try simp only [QQ,Qax] at ai
 refine gz hK7 U (.sk<|.sk<|.sk<|.pickF rfl rfl<|.assign rfl<|.nil) fun Y U=>rt1 U ?_
 exact⟨_,rfl,by unfold kb;first|(simp;intros;first|exact hall|omega)|(refine iff_of_false (by simp) (fun h =>?_);omega)|(rw[decide_eq_true_eq];exact⟨fun h=>⟨by omega,by omega,hall⟩,fun h=>by omega⟩),m5.below⟩
theorem qq(bl sz)(l:List (Int×List Int))(p)(c:Nat)(w0:World)(h0:Rd (fun _=>True) w0 (.slice p l.length c) (.l 2 (l.map itD)))(hl:l.length≤1000000) :
   Calls Tryz.prog 113 #[.int .i64 bl,.int .i64 sz,.slice p l.length c] w0 fun e w' => ∃ b:Bool,e=.returned (.bool b)∧(b=true↔kb bl sz l)∧Below w0.heap.size w0 w':=by
 refine uI Tryz.func113 rfl Tryz.ntmps113 fun Y U =>?_
 have m0:=MemOk.start (fun _=>False) w0
 refine hC U (.assign rfl .nil) fun Y U=>zsr fun K0 hK0=>g9 U (.move rfl<|.move rfl<|.move rfl .nil) fun Y U=>plz (ecl U Tryz.func139 rfl (qo bl sz l _ _ _ ((h0.now' m0 rfl).any) hl) ?_)
 rintro e w8 ⟨b,rfl,hb9,hb8⟩
 have m9:=m0.later hb8
 refine⟨_,rfl,?_⟩;intro Y U
 refine gz hK0 U (.assign rfl .nil) fun Y U=>rt1 U ?_
 exact⟨_,rfl,hb9,m9.below⟩
end
section
theorem uk:iO Tryz.prog 38 [.int .i64 0,.int .i64 0,.int .i64 0,.int .i64 0,.int .i64 0,.slice none 0 0,.int .i64 0,.int .i64 0,.int .i64 0,.slice none 0 0]=true:=by kernel_rfl
abbrev w1:Int×List (Int×List Int):=(0,[])
theorem jq{l:List (Int×List (Int×List Int))}{e:Int×List (Int×List Int)}(h:l[k]? = some e):l.getD k w1=e:=by rw[List.getD,h];rfl
def sf(fl:Int)(pins:List Int):Nat→Int
 | 0=>fl
 | k+1=>pins.getD k 0
def jT(fl:Int)(n:Nat)(pins:List Int)(k:Nat):Prop:=∀ j,j<k→sf fl pins j≤pins.getD j 0∧pins.getD j 0≤n
theorem jp{fl:Int}{pins:List Int}(h:jT fl n pins k)(h1:sf fl pins k≤pins.getD k 0)(h2:pins.getD k 0≤n):jT fl n pins (k+1):=fun j hj=>by
 rcases Nat.lt_or_ge j k with h3|h3
 · exact h j h3
 obtain rfl:j=k:=by omega
 exact⟨h1,h2⟩
def nO(n:Nat)(pins:List Int):Int:=pins.foldl min (n:Int)
theorem pN{pins:List Int}(hk:k<pins.length):min (nO n (pins.take k)) (pins.getD k 0)=nO n (pins.take (k+1)):=by
 rw[List.take_succ_eq_append_getElem hk,nO,nO,List.foldl_append,List.getD,List.getElem?_eq_getElem hk];rfl
def lj(bl sz:Int)(ws:List (Int×List (Int×List Int)))(k:Nat):Prop:=∀ j,j<k→(ws.getD j w1).1=j+1∧kb bl sz (ws.getD j w1).2
theorem kp{bl sz:Int}{ws:List (Int×List (Int×List Int))}{xs:Int}(h:lj bl sz ws k)(hes:ws[k]? = some (xs,xl))(h1:xs=k+1)(h2:kb bl sz xl):lj bl sz ws (k+1):=fun j hj=>by
 rcases Nat.lt_or_ge j k with h3|h3
 · exact h j h3
 obtain rfl:j=k:=by omega
 rw[jq hes];exact⟨h1,h2⟩
def VolR(vo bl sz pe to ne fl:Int)(hi:Bool)(place pins:List Int)(ws:List (Int×List (Int×List Int))):Prop:=iQ vo bl sz pe to place∧0≤ne∧ne≤to∧(hi=true→to≠0)∧(hi=false→ne=to)∧0≤fl∧fl≤ws.length∧jT fl ws.length pins pins.length∧lj bl sz ws ws.length
theorem tR(kd vo bl sz pe to at0 ix:Int)(place:List Int)(pp pi)(cp ni ci:Nat)(w0:World)(h0:Rd (fun _=>True) w0 (.slice pp place.length cp) (.ns .i64 place))(hn:place.length≤1000000)(hN:iQ vo bl sz pe to place) :
   Calls Tryz.prog 95 #[.agg #[.int .i64 kd,.int .i64 vo,.int .i64 bl,.int .i64 sz,.int .i64 pe,.slice pp place.length cp,.int .i64 to,.int .i64 at0,.int .i64 ix,.slice pi ni ci]] w0 fun e w' => ∃ p c,e=.returned (.tuple #[.agg #[.int .i64 vo,.int .i64 bl,.int .i64 sz,.int .i64 pe,.slice p place.length c,.int .i64 to,.int .i64 0,.bool (decide (0<to)),.int .i64 0,.slice none 0 0,.slice none 0 0],.int .i64 0])∧Rd (New w0) w' (.slice p place.length c) (.ns .i64 place)∧Below w0.heap.size w0 w':=
 (ly kd vo bl sz pe to at0 ix place pp pi cp ni ci w0 h0 hn).mono (fun _ _ h=>h.elim (fun h=>h.2) (fun h=>absurd hN h.1))
theorem wF(kd vo bl sz pe to at0 ix:Int)(place:List Int)(pp pi)(cp ni ci:Nat)(w0:World)(h0:Rd (fun _=>True) w0 (.slice pp place.length cp) (.ns .i64 place))(hn:place.length≤1000000)(hN:¬ iQ vo bl sz pe to place) :
   Calls Tryz.prog 95 #[.agg #[.int .i64 kd,.int .i64 vo,.int .i64 bl,.int .i64 sz,.int .i64 pe,.slice pp place.length cp,.int .i64 to,.int .i64 at0,.int .i64 ix,.slice pi ni ci]] w0 fun e w'=>e=.returned (.tuple #[.agg #[.int .i64 0,.int .i64 0,.int .i64 0,.int .i64 0,.slice none 0 0,.int .i64 0,.int .i64 0,.bool false,.int .i64 0,.slice none 0 0,.slice none 0 0],.int .i64 23])∧Below w0.heap.size w0 w':=
 (ly kd vo bl sz pe to at0 ix place pp pi cp ni ci w0 h0 hn).mono (fun _ _ h=>h.elim (fun h=>absurd h.1 hN) (fun h=>h.2))
theorem ko(bl sz)(l:List (Int×List Int))(p)(nn c:Nat)(w0:World)(h0:Rd (fun _=>True) w0 (.slice p nn c) (.l 2 (l.map itD)))(hl:l.length≤1000000) :
   Calls Tryz.prog 113 #[.int .i64 bl,.int .i64 sz,.slice p nn c] w0 fun e w' => ∃ b:Bool,e=.returned (.bool b)∧(b=true↔kb bl sz l)∧Below w0.heap.size w0 w':=by
 obtain rfl:nn=l.length:=by obtain⟨pq,cq,hv,_⟩:=h0.l_shape;injection hv with _ e2 _;rw[List.length_map] at e2;exact e2
 exact qq bl sz l p c w0 h0 hl
theorem lA(vo bl sz pe to ne fl:Int)(hi)(place pins:List Int)(ws:List (Int×List (Int×List Int)))(pp pn pw:Option Addr)(cp cn9 cw:Nat)(w0:World)(h1:Rd (fun _=>True) w0 (.slice pn pins.length cn9) (.ns .i64 pins))(hp:pins.length≤1000000) :
   Calls Tryz.prog 112 #[.agg #[.int .i64 vo,.int .i64 bl,.int .i64 sz,.int .i64 pe,.slice pp place.length cp,.int .i64 to,.int .i64 ne,.bool hi,.int .i64 fl,.slice pn pins.length cn9,.slice pw ws.length cw]] w0 fun e w' => ∃ b:Bool,e=.returned (.bool b)∧(b=true↔jT fl ws.length pins pins.length)∧Below w0.heap.size w0 w':=by
 refine i9 Tryz.func112 rfl Tryz.ntmps112 fun Y U =>?_
 have m0:=MemOk.start (fun _=>False) w0
 refine zsr fun K0 hK0=>plz<|iu U m0 20 (cs:=[_,_,_,_,_,_,_,_,_,_,_]) rfl rfl rfl fun g1 Y w2 U m2 _ _=>gz hK0 U (.assign rfl .nil) fun Y U=>hC U (.fa 8 rfl U51<|.lb m2 20 U2 rfl rfl rfl<|.assign rfl .nil) fun Y U=>wsk fun K1 hK1=>hC U (.fa 9 rfl U51<|.lb m2 20 U48 rfl rfl rfl<|.len rfl U48<|.move rfl .nil) fun Y U=>wp_block<|wp_loop_ghost (fun g a w => ∃ (k B:Nat),k≤pins.length∧g=pins.length - k∧jT fl ws.length pins k∧Has 26 [(1,.pointer (some ⟨B,0,none⟩)),(3,.int .i64 (sf fl pins k)),(9,.slice pn pins.length cn9),(10,.int .i64 pins.length),(11,.int .i64 k)] a∧MemOk (cn w0) w0 [(9,.box B 51 [.int .i64 vo,.int .i64 bl,.int .i64 sz,.int .i64 pe,.slice pp place.length cp,.int .i64 to,.int .i64 ne,.bool hi,.int .i64 fl,.slice pn pins.length cn9,.slice pw ws.length cw])] w) (pins.length) ?_ ?_
 · exact⟨0,_,Nat.zero_le _,rfl,(fun j hj=>by omega),U.only [1,3,9,10,11],m2.ren [(9,20)] (by decide)⟩
 clear U m2
 rintro g Y al ⟨k,B,hkl,hg,hall,U,ad⟩
 refine hC U (.lss rfl rfl .nil) fun Y U=>wsk fun K2 hK2=>bc U 12 ?_ ?_
 ·
  intro aa U;try simp only [QQ,Qax] at aa
  have hk:k<pins.length:=by omega
  refine wct U<|zss<|hK2 _ _<|wsk fun K3 hK3=>wp_block<|zsr fun K4 hK4 =>?_
  obtain⟨ai,aj,ag,ak,ae⟩:=h1.extN (k) hk
  revert U
  cases ag
  intro U
  refine gz hK4 U (.c rfl (fun _ h_=>ii h_ rfl rfl U48 iP (k) rfl hk)<|.loadAt1 (ae ad rfl) (q:=0) rfl rfl rfl U2 rfl<|.assign rfl<|.nil) fun Y U=>wsk fun K5 hK5=>zsr fun K6 hK6=>g9 U (.move rfl<|.move rfl<|.lss rfl rfl<|.move rfl .nil) fun Y U=>bc U 18 ?_ ?_
  ·
   intro ab U;try simp only [QQ,Qax] at ab
   refine gz hK6 U (.sk<|.sk<|.sk<|.sk<|.pickT rfl rfl<|.nil) fun Y U=>wct U ?_
   replace U:=U.oz [1,3,9,10,11,5]
   refine hC U (.assign rfl .nil) fun Y U=>rt1 U ?_
   exact⟨false,rfl,iff_of_false (by simp) (fun h=>by have h9:=h k hk;omega),ad.below⟩
  intro ab U;try simp only [QQ,Qax] at ab
  refine g9 U (.moveZ rfl<|.loadBRZ ad (i:=9) rfl rfl U51 rfl hH (by simp) (by dsimp only [List.drop,List.take] <;> rfl) .nil) fun Y U=>stz U (ecb U Tryz.func111 rfl ad (je _ _ _ _ _ _ _ _ _ _ _ _ _ _ _ _ _ _) fun Y ao U ah =>?_)
  refine gz hK6 U (.gtrZ rfl rfl<|.pickF rfl rfl<|.nil) fun Y U=>bc U 23 ?_ ?_
  ·
   intro ac U;try simp only [QQ,Qax] at ac
   refine wct U ?_
   replace U:=U.oz [1,3,9,10,11,5]
   refine hC U (.assign rfl .nil) fun Y U=>rt1 U ?_
   exact⟨false,rfl,iff_of_false (by simp) (fun h=>by have h9:=h k hk;omega),ah.below⟩
  intro ac U;try simp only [QQ,Qax] at ac
  refine wcf U<|zss (hK5 _ _ ?_)
  replace U:=U.oz [1,3,9,10,11,5]
  refine wp_region_lit<|gz hK3 U (.move rfl<|.assign rfl<|.nil) fun Y U=>wp_region_lit<|g9 U (.inc (k+1)<|.move rfl .nil) fun Y U=>wpList_nil ?_
  show ∃ n',n'<_∧_
  exact⟨pins.length - (k+1),by omega,k+1,_,by omega,rfl,jp hall (by omega) (by omega),U.only [1,3,9,10,11],ah.only [9]⟩
 intro aa U;try simp only [QQ,Qax] at aa
 revert U
 obtain rfl:k=pins.length:=by omega
 intro U
 refine wcf U<|wp_exit<|hK1 _ _<|hC U (.assign rfl .nil) fun Y U=>rt1 U ?_
 exact⟨true,rfl,iff_of_true rfl hall,ad.below⟩
theorem wy(vo bl sz pe to ne fl:Int)(hi)(place pins:List Int)(ws:List (Int×List (Int×List Int)))(pp pn pw:Option Addr)(cp cn9 cw:Nat)(w0:World)(h1:Rd (fun _=>True) w0 (.slice pn pins.length cn9) (.ns .i64 pins))(hp:pins.length≤1000000) :
   Calls Tryz.prog 170 #[.agg #[.int .i64 vo,.int .i64 bl,.int .i64 sz,.int .i64 pe,.slice pp place.length cp,.int .i64 to,.int .i64 ne,.bool hi,.int .i64 fl,.slice pn pins.length cn9,.slice pw ws.length cw]] w0 fun e w'=>e=.returned (.int .i64 (nO ws.length pins))∧Below w0.heap.size w0 w':=by
 refine i9 Tryz.func170 rfl Tryz.ntmps170 fun Y U =>?_
 have m0:=MemOk.start (fun _=>False) w0
 refine zsr fun K0 hK0=>plz<|iu U m0 20 (cs:=[_,_,_,_,_,_,_,_,_,_,_]) rfl rfl rfl fun g1 Y w2 U m2 _ _=>gz hK0 U (.assign rfl .nil) fun Y U=>zsr fun K1 hK1=>g9 U (.loadBR m2 (i:=20) rfl rfl U51 rfl hH (by simp) (by dsimp only [List.drop,List.take] <;> rfl) .nil) fun Y U=>plz<|ecb U Tryz.func111 rfl m2 (je _ _ _ _ _ _ _ _ _ _ _ _ _ _ _ _ _ _) fun Y w6 U m7=>gz hK1 U (.assign rfl .nil) fun Y U=>wsk fun K2 hK2=>hC U (.fa 9 rfl U51<|.lb m7 20 U48 rfl rfl rfl<|.len rfl U48<|.move rfl .nil) fun Y U=>wp_block<|wp_loop_ghost (fun g a w => ∃ (k B:Nat),k≤pins.length∧g=pins.length - k∧Has 20 [(1,.pointer (some ⟨B,0,none⟩)),(3,.int .i64 (nO ws.length (pins.take k))),(9,.slice pn pins.length cn9),(10,.int .i64 pins.length),(11,.int .i64 k)] a∧MemOk (cn w0) w0 [(9,.box B 51 [.int .i64 vo,.int .i64 bl,.int .i64 sz,.int .i64 pe,.slice pp place.length cp,.int .i64 to,.int .i64 ne,.bool hi,.int .i64 fl,.slice pn pins.length cn9,.slice pw ws.length cw])] w) (pins.length) ?_ ?_
 · exact⟨0,_,Nat.zero_le _,rfl,U.only [1,3,9,10,11],m7.ren [(9,20)] (by decide)⟩
 clear U m7
 rintro g Y ai ⟨k,B,hkl,hg,U,ac⟩
 refine hC U (.lss rfl rfl .nil) fun Y U=>wsk fun K3 hK3=>bc U 12 ?_ ?_
 ·
  intro aa U;try simp only [QQ,Qax] at aa
  have hk:k<pins.length:=by omega
  refine wct U<|zss<|hK3 _ _<|wsk fun K4 hK4=>wp_block<|zsr fun K5 hK5 =>?_
  obtain⟨ae,ag,ad,ah,ab⟩:=h1.extN (k) hk
  revert U
  cases ad
  intro U
  refine gz hK5 U (.c rfl (fun _ h_=>ii h_ rfl rfl U48 iP (k) rfl hk)<|.loadAt1 (ab ac rfl) (q:=0) rfl rfl rfl U2 rfl<|.assign rfl<|.nil) fun Y U=>wp_region_lit<|gz hK4 U (.move rfl<|.move rfl<|.c rfl (fun _ h_=>wK h_ rfl rfl rfl)<|.assign rfl<|.nil) fun Y U =>?_
  replace U:=U.oz [1,3,9,10,11]
  refine wp_region_lit<|g9 U (.inc (k+1)<|.move rfl .nil) fun Y U=>wpList_nil ?_
  show ∃ n',n'<_∧_
  rw[pN hk] at U
  exact⟨pins.length - (k+1),by omega,k+1,_,by omega,rfl,U.only [1,3,9,10,11],ac.only [9]⟩
 intro aa U;try simp only [QQ,Qax] at aa
 revert U
 obtain rfl:k=pins.length:=by omega
 intro U
 refine wcf U<|wp_exit<|hK2 _ _<|hC U (.move rfl<|.assign rfl .nil) fun Y U=>rt1 U ?_
 exact⟨by rw[List.take_length],ac.below⟩
theorem qg(vo bl sz pe to ne fl:Int)(hi)(place pins:List Int)(ws:List (Int×List (Int×List Int)))(pp pn pw:Option Addr)(cp cn9 cw:Nat)(w0:World)(h0:Rd (fun _=>True) w0 (.slice pp place.length cp) (.ns .i64 place))(h1:Rd (fun _=>True) w0 (.slice pn pins.length cn9) (.ns .i64 pins))(h2:Rd (fun _=>True) w0 (.slice pw ws.length cw) (.l 2 (ws.map wrD)))(hn:place.length≤1000000)(hp:pins.length≤1000000)(hl:ws.length≤1000000)(hwl:∀ e∈ws,e.2.length≤1000000) :
   Calls Tryz.prog 63 #[.agg #[.int .i64 vo,.int .i64 bl,.int .i64 sz,.int .i64 pe,.slice pp place.length cp,.int .i64 to,.int .i64 ne,.bool hi,.int .i64 fl,.slice pn pins.length cn9,.slice pw ws.length cw]] w0 fun e w' => ∃ b:Bool,e=.returned (.bool b)∧(b=true↔VolR vo bl sz pe to ne fl hi place pins ws)∧Below w0.heap.size w0 w':=by
 refine i9 Tryz.func63 rfl Tryz.ntmps63 fun Y U =>?_
 have m0:=MemOk.start (fun _=>False) w0
 refine zsr fun K0 hK0=>plz<|iu U m0 20 (cs:=[_,_,_,_,_,_,_,_,_,_,_]) rfl rfl rfl fun g1 Y w2 U m2 _ _=>gz hK0 U (.assign rfl .nil) fun Y U=>wsk fun K1 hK1 =>?_
 by_cases hN:iQ vo bl sz pe to place
 ·
  refine wp_region_lit<|g9 U (.fa 0 rfl U51<|.lb m2 20 U3 rfl rfl rfl<|.fa 1 rfl U51<|.lb m2 20 U3 rfl rfl rfl<|.fa 2 rfl U51<|.lb m2 20 U3 rfl rfl rfl<|.fa 3 rfl U51<|.lb m2 20 U3 rfl rfl rfl<|.fa 4 rfl U51<|.lb m2 20 U35 rfl rfl rfl<|.fa 5 rfl U51<|.lb m2 20 U3 rfl rfl rfl<|.build rfl i8 uk rfl (by dsimp only [iY,List.set] <;> rfl) .nil) fun Y U=>plz (ecl U Tryz.func95 rfl (tR _ _ _ _ _ _ _ _ place _ _ _ _ _ _ ((h0.now' m2 rfl).any) hn hN) ?_)
  rintro e dJ ⟨dK,dL,rfl,b7,b8⟩
  have cW:=m2.callF 21 rfl b8 b7
  refine⟨_,rfl,?_⟩;intro Y U
  refine g9 U (.move rfl<|.extract rfl rfl<|.extract rfl rfl .nil) fun Y U=>plz<|hZ U cW 22 iA rfl fun dM Y dN U cX _ _=>plz (stw U cX 22 hH fun dO b9 _ =>?_)
  refine gz hK1 U (.assign rfl .nil) fun Y U=>wsk fun K2 hK2 =>?_
  replace U:=U.oz [1,2,4]
  refine zsr fun K3 hK3=>g9 U (.move rfl<|.neq rfl rfl<|.move rfl .nil) fun Y U=>bc U 26 ?_ ?_
  · intro hb _;exact absurd hb (by simp)
  clear U;intro _ U
  refine g9 U (.faZ 6 rfl U51<|.loadB1Z b9 (i:=20) rfl rfl rfl U3 rfl<|.faZ 5 rfl U51<|.loadB1Z b9 (i:=20) rfl rfl rfl U3 rfl .nil) fun Y U=>stz U (ecb U Tryz.func110 rfl b9 (jg _ _ _ _) fun Y dP U ai =>?_)
  refine g9 U (.notZ rfl<|.pickF rfl rfl<|.move rfl .nil) fun Y U=>bc U 34 ?_ ?_
  ·
   intro bd U;try simp only [QQ,Qax] at bd
   refine g9 U (.sk<|.sk<|.sk .nil) fun Y U=>iE U rfl rfl rfl rfl fun Y U=>iE U rfl rfl rfl rfl fun Y U=>iE U rfl rfl rfl rfl fun Y U=>g9 U (.sk<|.pickT rfl rfl<|.move rfl<|.sk<|.sk<|.sk<|.sk .nil) fun Y U=>iE U rfl rfl rfl rfl fun Y U=>iE U rfl rfl rfl rfl fun Y U=>iE U rfl rfl rfl rfl fun Y U=>iE U rfl rfl rfl rfl fun Y U=>iE U rfl rfl rfl rfl fun Y U=>gz hK3 U (.sk<|.pickT rfl rfl<|.nil) fun Y U=>wct U ?_
   replace U:=U.oz [1,2]
   refine hC U (.assign rfl .nil) fun Y U=>rt1 U ?_
   exact⟨false,rfl,iff_of_false (by simp) (fun h=>by obtain⟨v1,v2,v3,v4,v5,v6,v7,v8,v9⟩:=h;first|(have aa:=v9 k hk;rw[jq hes] at aa;have ab:=aa.1;dsimp only at ab;omega)|(have aa:=v9 k hk;rw[jq hes] at aa;have ac:=hib.2 aa.2;exact absurd (ac.symm.trans ‹ib=false›) (by decide))|exact hN v1|omega|(have aa:=hpb.2 v8;subst aa;first|exact absurd ‹true=false› (by decide)|exact absurd ‹(!true)=true› (by decide))|(simp_all;done)|(simp_all;omega)),ai.below⟩
  intro bd U;try simp only [QQ,Qax] at bd
  refine g9 U (.faZ 7 rfl U51<|.loadB1Z ai (i:=20) rfl rfl rfl U4 rfl<|.moveZ rfl .nil) fun Y U=>bc U 37 ?_ ?_
  ·
   intro be U;try simp only [QQ,Qax] at be
   refine g9 U (.faZ 5 rfl U51<|.loadB1Z ai (i:=20) rfl rfl rfl U3 rfl<|.eqlZ rfl rfl<|.pickTZ rfl rfl<|.pickF rfl rfl<|.move rfl .nil) fun Y U=>bc U 43 ?_ ?_
   ·
    intro bf U;try simp only [QQ,Qax] at bf
    refine g9 U (.sk<|.sk<|.sk<|.sk .nil) fun Y U=>iE U rfl rfl rfl rfl fun Y U=>iE U rfl rfl rfl rfl fun Y U=>iE U rfl rfl rfl rfl fun Y U=>iE U rfl rfl rfl rfl fun Y U=>iE U rfl rfl rfl rfl fun Y U=>gz hK3 U (.sk<|.pickT rfl rfl<|.nil) fun Y U=>wct U ?_
    replace U:=U.oz [1,2]
    refine hC U (.assign rfl .nil) fun Y U=>rt1 U ?_
    exact⟨false,rfl,iff_of_false (by simp) (fun h=>by obtain⟨v1,v2,v3,v4,v5,v6,v7,v8,v9⟩:=h;first|(have aa:=v9 k hk;rw[jq hes] at aa;have ab:=aa.1;dsimp only at ab;omega)|(have aa:=v9 k hk;rw[jq hes] at aa;have ac:=hib.2 aa.2;exact absurd (ac.symm.trans ‹ib=false›) (by decide))|exact hN v1|omega|(have aa:=hpb.2 v8;subst aa;first|exact absurd ‹true=false› (by decide)|exact absurd ‹(!true)=true› (by decide))|(simp_all;done)|(simp_all;omega)),ai.below⟩
   intro bf U;try simp only [QQ,Qax] at bf
   refine g9 U (.faZ 7 rfl U51<|.loadB1Z ai (i:=20) rfl rfl rfl U4 rfl<|.notZ rfl<|.moveZ rfl .nil) fun Y U=>bc U 47 ?_ ?_
   ·
    intro bg U;try simp only [QQ,Qax] at bg
    refine gz hK3 U (.faZ 6 rfl U51<|.loadB1Z ai (i:=20) rfl rfl rfl U3 rfl<|.faZ 5 rfl U51<|.loadB1Z ai (i:=20) rfl rfl rfl U3 rfl<|.neqZ rfl rfl<|.pickTZ rfl rfl<|.pickF rfl rfl<|.nil) fun Y U=>bc U 54 ?_ ?_
    ·
     intro aH U;try simp only [QQ,Qax] at aH
     refine wct U ?_
     replace U:=U.oz [1,2]
     refine hC U (.assign rfl .nil) fun Y U=>rt1 U ?_
     exact⟨false,rfl,iff_of_false (by simp) (fun h=>by obtain⟨v1,v2,v3,v4,v5,v6,v7,v8,v9⟩:=h;first|(have aa:=v9 k hk;rw[jq hes] at aa;have ab:=aa.1;dsimp only at ab;omega)|(have aa:=v9 k hk;rw[jq hes] at aa;have ac:=hib.2 aa.2;exact absurd (ac.symm.trans ‹ib=false›) (by decide))|exact hN v1|omega|(have aa:=hpb.2 v8;subst aa;first|exact absurd ‹true=false› (by decide)|exact absurd ‹(!true)=true› (by decide))|(simp_all;done)|(simp_all;omega)),ai.below⟩
    intro aH U;try simp only [QQ,Qax] at aH
    refine wcf U<|zss<|hK2 _ _<|wsk fun K4 hK4=>wsk fun K5 hK5 =>?_
    replace U:=U.oz [1,2]
    have bh:=ai.oz [20,21,22]
    refine region_p 15 (B:=[(20,_),(21,_),(22,_)]) (bh.to i3l) bh (by kernel_rfl) (fun cY ad aI =>?_);clear bh
    refine goR ad [0,1,2,3] [1] 4 0 15 U (aI.to i3l) (.fa 8 rfl U51<|.lb hh 20 U2 rfl rfl rfl<|.lss rfl rfl<|.move rfl .nil) fun Y U=>bc U 58 ?_ ?_
    ·
     intro aJ U;try simp only [QQ,Qax] at aJ
     refine goA ad [4,5,6,7,8,9,10,11,12,13,14] 11 15 32767 U (aI.to i3l) (.s<|.s<|.s<|.s<|.s<|.pickT rfl rfl<|.move rfl<|.s<|.s<|.s<|.pickT rfl rfl .nil) fun Y U=>wad<|hK5 _ _<|wct U ?_
     replace U:=U.oz [1,2]
     refine hC U (.assign rfl .nil) fun Y U=>rt1 U ?_
     exact⟨false,rfl,iff_of_false (by simp) (fun h=>by obtain⟨v1,v2,v3,v4,v5,v6,v7,v8,v9⟩:=h;first|(have aa:=v9 k hk;rw[jq hes] at aa;have ab:=aa.1;dsimp only at ab;omega)|(have aa:=v9 k hk;rw[jq hes] at aa;have ac:=hib.2 aa.2;exact absurd (ac.symm.trans ‹ib=false›) (by decide))|exact hN v1|omega|(have aa:=hpb.2 v8;subst aa;first|exact absurd ‹true=false› (by decide)|exact absurd ‹(!true)=true› (by decide))|(simp_all;done)|(simp_all;omega)),aI.below⟩
    intro aJ U;try simp only [QQ,Qax] at aJ
    refine goR ad [4,5,6] [5,6] 3 15 127 U (aI.to i3l) (.fa 8 rfl U51<|.lb hh 20 U2 rfl rfl rfl<|.loadBR hh (i:=20) rfl rfl U51 rfl hH (by simp) (by dsimp only [List.drop,List.take] <;> rfl) .nil) fun Y U=>ig 7 rfl (by kernel_rfl) (iq U rfl rfl rfl rfl)<|fun K hK=>iw U Tryz.func111 rfl rfl rfl rfl (je _ _ _ _ _ _ _ _ _ _ _ _ _ _ _ _ _ _) ?_
    rintro e cZ ⟨rfl,bx⟩
    have aj:=aI.later bx
    refine⟨_,rfl,?_⟩;intro Y U
    refine hK _ _ (aj.to i3l) ?_;clear hK K
    refine goA ad [8,9,10] 3 255 2047 U (aj.to i3l) (.gtr rfl rfl<|.pickF rfl rfl<|.move rfl .nil) fun Y U=>bc U 65 ?_ ?_
    ·
     intro aK U;try simp only [QQ,Qax] at aK
     refine goA ad [11,12,13,14] 4 2047 32767 U (aj.to i3l) (.s<|.s<|.s<|.pickT rfl rfl .nil) fun Y U=>wad<|hK5 _ _<|wct U ?_
     replace U:=U.oz [1,2]
     refine hC U (.assign rfl .nil) fun Y U=>rt1 U ?_
     exact⟨false,rfl,iff_of_false (by simp) (fun h=>by obtain⟨v1,v2,v3,v4,v5,v6,v7,v8,v9⟩:=h;first|(have aa:=v9 k hk;rw[jq hes] at aa;have ab:=aa.1;dsimp only at ab;omega)|(have aa:=v9 k hk;rw[jq hes] at aa;have ac:=hib.2 aa.2;exact absurd (ac.symm.trans ‹ib=false›) (by decide))|exact hN v1|omega|(have aa:=hpb.2 v8;subst aa;first|exact absurd ‹true=false› (by decide)|exact absurd ‹(!true)=true› (by decide))|(simp_all;done)|(simp_all;omega)),aj.below⟩
    intro aK U;try simp only [QQ,Qax] at aK
    refine goR ad [11] [11] 1 2047 4095 U (aj.to i3l) (.loadBR hh (i:=20) rfl rfl U51 rfl hH (by simp) (by dsimp only [List.drop,List.take] <;> rfl) .nil) fun Y U=>ig 12 rfl (by kernel_rfl) (iq U rfl rfl rfl rfl)<|fun K hK=>iw U Tryz.func112 rfl rfl rfl rfl (lA _ _ _ _ _ _ _ _ place pins ws _ _ _ _ _ _ _ ((h1.now' aj rfl).any) hp) ?_
    rintro e c0 ⟨pb,rfl,hpb,bz⟩
    have aD:=aj.later bz
    refine⟨_,rfl,?_⟩;intro Y U
    refine hK _ _ (aD.to i3l) ?_;clear hK K
    refine goA ad [13,14] 2 8191 32767 U (aD.to i3l) (.not rfl<|.pickF rfl rfl .nil) fun Y U=>wad<|hK5 _ _<|bc U 69 ?_ ?_
    ·
     intro aL U;try simp only [QQ,Qax] at aL
     refine wct U ?_
     replace U:=U.oz [1,2]
     refine hC U (.assign rfl .nil) fun Y U=>rt1 U ?_
     exact⟨false,rfl,iff_of_false (by simp) (fun h=>by obtain⟨v1,v2,v3,v4,v5,v6,v7,v8,v9⟩:=h;first|(have aa:=v9 k hk;rw[jq hes] at aa;have ab:=aa.1;dsimp only at ab;omega)|(have aa:=v9 k hk;rw[jq hes] at aa;have ac:=hib.2 aa.2;exact absurd (ac.symm.trans ‹ib=false›) (by decide))|exact hN v1|omega|(have aa:=hpb.2 v8;subst aa;first|exact absurd ‹true=false› (by decide)|exact absurd ‹(!true)=true› (by decide))|(simp_all;done)|(simp_all;omega)),aD.below⟩
    intro aL U;try simp only [QQ,Qax] at aL
    refine wcf U<|zss<|hK4 _ _<|wsk fun K6 hK6 =>?_
    replace U:=U.oz [1,2]
    refine hC U (.fa 10 rfl U51<|.lb aD 20 U49 rfl rfl rfl<|.len rfl U49<|.move rfl .nil) fun Y U=>wp_block<|wp_loop_ghost (fun g a w => ∃ (k B:Nat),k≤ws.length∧g=ws.length - k∧lj bl sz ws k∧Has 94 [(1,.pointer (some ⟨B,0,none⟩)),(71,.slice pw ws.length cw),(72,.int .i64 ws.length),(73,.int .i64 k)] a∧MemOk (cn w0) w0 [(9,.box B 51 [.int .i64 vo,.int .i64 bl,.int .i64 sz,.int .i64 pe,.slice pp place.length cp,.int .i64 to,.int .i64 ne,.bool hi,.int .i64 fl,.slice pn pins.length cn9,.slice pw ws.length cw])] w) (ws.length) ?_ ?_
    · exact⟨0,_,Nat.zero_le _,rfl,(fun j hj=>by omega),U.only [1,71,72,73],aD.ren [(9,20)] (by decide)⟩
    clear U aD
    rintro g Y c1 ⟨k,B,hkl,hg,hall,U,bi⟩
    refine hC U (.lss rfl rfl .nil) fun Y U=>wsk fun K7 hK7=>bc U 74 ?_ ?_
    ·
     intro aM U;try simp only [QQ,Qax] at aM
     have hk:k<ws.length:=by omega
     obtain⟨⟨xs,xl⟩,hes⟩:∃ e,ws[k]? = some e:=⟨_,List.getElem?_eq_getElem hk⟩
     refine wct U<|zss<|hK7 _ _<|wsk fun K8 hK8=>wp_block<|zsr fun K9 hK9=>g9 U (.move rfl .nil) fun Y U =>?_
     obtain⟨cC,cD,cE,bA,cF,bB,bj⟩:=h2.extA (k) (r:=[.v (.int .i64 xs),.l 2 (xl.map itD)]) (iI hes)
     revert U
     cases bA
     rcases bB with _|⟨av,_|⟨aw,_|_⟩⟩
     obtain rfl:=av.v_out
     clear av
     obtain⟨c2,c3,bC,cG⟩:=aw.l_shape;subst bC
     intro U
     refine g9 U (.c rfl (fun _ h_=>ii h_ rfl rfl U49 jR (k) rfl hk)<|.loadAt (bj bi rfl) rfl j1 rfl jR .nil) fun Y U=>plz<|hZ U bi 101 qr rfl fun c4 Y c5 U ca _ _=>g9 U (.assign rfl .nil) fun Y U=>plz (stw U ca 101 jR fun c6 ak _ =>?_)
     refine znl<|hK9 _ _<|zsr fun dQ bE=>g9 U (.fa 0 rfl j1<|.lb ak 101 U2 rfl rfl rfl<|.move rfl<|.add rfl rfl (r:=((k:Nat):Int)+1) (IntWalk.i64_in _ (by omega))<|.neq rfl rfl<|.move rfl .nil) fun Y U=>bc U 83 ?_ ?_
     ·
      intro aN U;try simp only [QQ,Qax] at aN
      refine gz bE U (.sk<|.sk<|.sk<|.sk<|.sk<|.sk<|.sk<|.sk<|.pickT rfl rfl<|.nil) fun Y U=>wct U ?_
      replace U:=U.oz [1,71,72,73]
      refine hC U (.assign rfl .nil) fun Y U=>rt1 U ?_
      exact⟨false,rfl,iff_of_false (by simp) (fun h=>by obtain⟨v1,v2,v3,v4,v5,v6,v7,v8,v9⟩:=h;first|(have aa:=v9 k hk;rw[jq hes] at aa;have ab:=aa.1;dsimp only at ab;omega)|(have aa:=v9 k hk;rw[jq hes] at aa;have ac:=hib.2 aa.2;exact absurd (ac.symm.trans ‹ib=false›) (by decide))|exact hN v1|omega|(have aa:=hpb.2 v8;subst aa;first|exact absurd ‹true=false› (by decide)|exact absurd ‹(!true)=true› (by decide))|(simp_all;done)|(simp_all;omega)),ak.below⟩
     intro aN U;try simp only [QQ,Qax] at aN
     refine g9 U (.faZ 1 rfl U51<|.loadB1Z ak (i:=9) rfl rfl rfl U3 rfl<|.faZ 2 rfl U51<|.loadB1Z ak (i:=9) rfl rfl rfl U3 rfl<|.faZ 1 rfl j1<|.loadB1Z ak (i:=101) rfl rfl rfl U36 rfl .nil) fun Y U=>stz U (ecl U Tryz.func113 rfl (ko _ _ xl _ _ _ _ ((aw.now' ak rfl).any) (hwl _ (List.mem_of_getElem? hes))) ?_)
     rintro e c7 ⟨ib,rfl,hib,bF⟩
     have bG:=ak.later bF
     refine⟨_,rfl,?_⟩;intro Y U
     refine gz bE U (.notZ rfl<|.pickF rfl rfl<|.nil) fun Y U=>bc U 92 ?_ ?_
     ·
      intro aO U;try simp only [QQ,Qax] at aO
      refine wct U ?_
      replace U:=U.oz [1,71,72,73]
      refine hC U (.assign rfl .nil) fun Y U=>rt1 U ?_
      exact⟨false,rfl,iff_of_false (by simp) (fun h=>by obtain⟨v1,v2,v3,v4,v5,v6,v7,v8,v9⟩:=h;first|(have aa:=v9 k hk;rw[jq hes] at aa;have ab:=aa.1;dsimp only at ab;omega)|(have aa:=v9 k hk;rw[jq hes] at aa;have ac:=hib.2 aa.2;exact absurd (ac.symm.trans ‹ib=false›) (by decide))|exact hN v1|omega|(have aa:=hpb.2 v8;subst aa;first|exact absurd ‹true=false› (by decide)|exact absurd ‹(!true)=true› (by decide))|(simp_all;done)|(simp_all;omega)),bG.below⟩
     intro aO U;try simp only [QQ,Qax] at aO
     refine wcf U<|zss (hK8 _ _ ?_)
     replace U:=U.oz [1,71,72,73]
     refine wp_region_lit<|g9 U (.inc (k+1)<|.move rfl .nil) fun Y U=>wpList_nil ?_
     show ∃ n',n'<_∧_
     exact⟨ws.length - (k+1),by omega,k+1,_,by omega,rfl,kp hall hes (by omega) (hib.1 (by first|assumption|simp_all)),U.only [1,71,72,73],bG.only [9]⟩
    intro aM U;try simp only [QQ,Qax] at aM
    revert U
    obtain rfl:k=ws.length:=by omega
    intro U
    refine wcf U<|wp_exit<|hK6 _ _<|hC U (.assign rfl .nil) fun Y U=>rt1 U ?_
    exact⟨true,rfl,iff_of_true rfl ⟨hN,by omega,by omega,by simp_all,by simp_all,by omega,by omega,hpb.1 (by simp_all),hall⟩,bi.below⟩
   intro bg U;try simp only [QQ,Qax] at bg
   refine gz hK3 U (.sk<|.sk<|.sk<|.sk<|.sk<|.pickFZ rfl rfl<|.pickF rfl rfl<|.nil) fun Y U=>wcf U<|zss<|hK2 _ _<|wsk fun dR cb=>wsk fun dS bk =>?_
   replace U:=U.oz [1,2]
   have bm:=ai.oz [20,21,22]
   refine region_p 15 (B:=[(20,_),(21,_),(22,_)]) (bm.to i3l) bm (by kernel_rfl) (fun c8 ae aP =>?_);clear bm
   refine goR ae [0,1,2,3] [1] 4 0 15 U (aP.to i3l) (.fa 8 rfl U51<|.lb hh 20 U2 rfl rfl rfl<|.lss rfl rfl<|.move rfl .nil) fun Y U=>bc U 58 ?_ ?_
   ·
    intro aQ U;try simp only [QQ,Qax] at aQ
    refine goA ae [4,5,6,7,8,9,10,11,12,13,14] 11 15 32767 U (aP.to i3l) (.s<|.s<|.s<|.s<|.s<|.pickT rfl rfl<|.move rfl<|.s<|.s<|.s<|.pickT rfl rfl .nil) fun Y U=>wad<|bk _ _<|wct U ?_
    replace U:=U.oz [1,2]
    refine hC U (.assign rfl .nil) fun Y U=>rt1 U ?_
    exact⟨false,rfl,iff_of_false (by simp) (fun h=>by obtain⟨v1,v2,v3,v4,v5,v6,v7,v8,v9⟩:=h;first|(have aa:=v9 k hk;rw[jq hes] at aa;have ab:=aa.1;dsimp only at ab;omega)|(have aa:=v9 k hk;rw[jq hes] at aa;have ac:=hib.2 aa.2;exact absurd (ac.symm.trans ‹ib=false›) (by decide))|exact hN v1|omega|(have aa:=hpb.2 v8;subst aa;first|exact absurd ‹true=false› (by decide)|exact absurd ‹(!true)=true› (by decide))|(simp_all;done)|(simp_all;omega)),aP.below⟩
   intro aQ U;try simp only [QQ,Qax] at aQ
   refine goR ae [4,5,6] [5,6] 3 15 127 U (aP.to i3l) (.fa 8 rfl U51<|.lb hh 20 U2 rfl rfl rfl<|.loadBR hh (i:=20) rfl rfl U51 rfl hH (by simp) (by dsimp only [List.drop,List.take] <;> rfl) .nil) fun Y U=>ig 7 rfl (by kernel_rfl) (iq U rfl rfl rfl rfl)<|fun K hK=>iw U Tryz.func111 rfl rfl rfl rfl (je _ _ _ _ _ _ _ _ _ _ _ _ _ _ _ _ _ _) ?_
   rintro e c9 ⟨rfl,bH⟩
   have al:=aP.later bH
   refine⟨_,rfl,?_⟩;intro Y U
   refine hK _ _ (al.to i3l) ?_;clear hK K
   refine goA ae [8,9,10] 3 255 2047 U (al.to i3l) (.gtr rfl rfl<|.pickF rfl rfl<|.move rfl .nil) fun Y U=>bc U 65 ?_ ?_
   ·
    intro aR U;try simp only [QQ,Qax] at aR
    refine goA ae [11,12,13,14] 4 2047 32767 U (al.to i3l) (.s<|.s<|.s<|.pickT rfl rfl .nil) fun Y U=>wad<|bk _ _<|wct U ?_
    replace U:=U.oz [1,2]
    refine hC U (.assign rfl .nil) fun Y U=>rt1 U ?_
    exact⟨false,rfl,iff_of_false (by simp) (fun h=>by obtain⟨v1,v2,v3,v4,v5,v6,v7,v8,v9⟩:=h;first|(have aa:=v9 k hk;rw[jq hes] at aa;have ab:=aa.1;dsimp only at ab;omega)|(have aa:=v9 k hk;rw[jq hes] at aa;have ac:=hib.2 aa.2;exact absurd (ac.symm.trans ‹ib=false›) (by decide))|exact hN v1|omega|(have aa:=hpb.2 v8;subst aa;first|exact absurd ‹true=false› (by decide)|exact absurd ‹(!true)=true› (by decide))|(simp_all;done)|(simp_all;omega)),al.below⟩
   intro aR U;try simp only [QQ,Qax] at aR
   refine goR ae [11] [11] 1 2047 4095 U (al.to i3l) (.loadBR hh (i:=20) rfl rfl U51 rfl hH (by simp) (by dsimp only [List.drop,List.take] <;> rfl) .nil) fun Y U=>ig 12 rfl (by kernel_rfl) (iq U rfl rfl rfl rfl)<|fun K hK=>iw U Tryz.func112 rfl rfl rfl rfl (lA _ _ _ _ _ _ _ _ place pins ws _ _ _ _ _ _ _ ((h1.now' al rfl).any) hp) ?_
   rintro e da ⟨pb,rfl,hpb,bI⟩
   have aE:=al.later bI
   refine⟨_,rfl,?_⟩;intro Y U
   refine hK _ _ (aE.to i3l) ?_;clear hK K
   refine goA ae [13,14] 2 8191 32767 U (aE.to i3l) (.not rfl<|.pickF rfl rfl .nil) fun Y U=>wad<|bk _ _<|bc U 69 ?_ ?_
   ·
    intro aS U;try simp only [QQ,Qax] at aS
    refine wct U ?_
    replace U:=U.oz [1,2]
    refine hC U (.assign rfl .nil) fun Y U=>rt1 U ?_
    exact⟨false,rfl,iff_of_false (by simp) (fun h=>by obtain⟨v1,v2,v3,v4,v5,v6,v7,v8,v9⟩:=h;first|(have aa:=v9 k hk;rw[jq hes] at aa;have ab:=aa.1;dsimp only at ab;omega)|(have aa:=v9 k hk;rw[jq hes] at aa;have ac:=hib.2 aa.2;exact absurd (ac.symm.trans ‹ib=false›) (by decide))|exact hN v1|omega|(have aa:=hpb.2 v8;subst aa;first|exact absurd ‹true=false› (by decide)|exact absurd ‹(!true)=true› (by decide))|(simp_all;done)|(simp_all;omega)),aE.below⟩
   intro aS U;try simp only [QQ,Qax] at aS
   refine wcf U<|zss<|cb _ _<|wsk fun dT cc =>?_
   replace U:=U.oz [1,2]
   refine hC U (.fa 10 rfl U51<|.lb aE 20 U49 rfl rfl rfl<|.len rfl U49<|.move rfl .nil) fun Y U=>wp_block<|wp_loop_ghost (fun g a w => ∃ (k B:Nat),k≤ws.length∧g=ws.length - k∧lj bl sz ws k∧Has 94 [(1,.pointer (some ⟨B,0,none⟩)),(71,.slice pw ws.length cw),(72,.int .i64 ws.length),(73,.int .i64 k)] a∧MemOk (cn w0) w0 [(9,.box B 51 [.int .i64 vo,.int .i64 bl,.int .i64 sz,.int .i64 pe,.slice pp place.length cp,.int .i64 to,.int .i64 ne,.bool hi,.int .i64 fl,.slice pn pins.length cn9,.slice pw ws.length cw])] w) (ws.length) ?_ ?_
   · exact⟨0,_,Nat.zero_le _,rfl,(fun j hj=>by omega),U.only [1,71,72,73],aE.ren [(9,20)] (by decide)⟩
   clear U aE
   rintro g Y db ⟨k,B,hkl,hg,hall,U,bn⟩
   refine hC U (.lss rfl rfl .nil) fun Y U=>wsk fun dU cd=>bc U 74 ?_ ?_
   ·
    intro aT U;try simp only [QQ,Qax] at aT
    have hk:k<ws.length:=by omega
    obtain⟨⟨xs,xl⟩,hes⟩:∃ e,ws[k]? = some e:=⟨_,List.getElem?_eq_getElem hk⟩
    refine wct U<|zss<|cd _ _<|wsk fun dV ce=>wp_block<|zsr fun dW cf=>g9 U (.move rfl .nil) fun Y U =>?_
    obtain⟨cH,cI,cJ,bJ,cK,bK,bo⟩:=h2.extA (k) (r:=[.v (.int .i64 xs),.l 2 (xl.map itD)]) (iI hes)
    revert U
    cases bJ
    rcases bK with _|⟨ax,_|⟨ay,_|_⟩⟩
    obtain rfl:=ax.v_out
    clear ax
    obtain⟨dc,de,bL,cL⟩:=ay.l_shape;subst bL
    intro U
    refine g9 U (.c rfl (fun _ h_=>ii h_ rfl rfl U49 jR (k) rfl hk)<|.loadAt (bo bn rfl) rfl j1 rfl jR .nil) fun Y U=>plz<|hZ U bn 101 qr rfl fun df Y dg U cg _ _=>g9 U (.assign rfl .nil) fun Y U=>plz (stw U cg 101 jR fun dh ao _ =>?_)
    refine znl<|cf _ _<|zsr fun dX bM=>g9 U (.fa 0 rfl j1<|.lb ao 101 U2 rfl rfl rfl<|.move rfl<|.add rfl rfl (r:=((k:Nat):Int)+1) (IntWalk.i64_in _ (by omega))<|.neq rfl rfl<|.move rfl .nil) fun Y U=>bc U 83 ?_ ?_
    ·
     intro aU U;try simp only [QQ,Qax] at aU
     refine gz bM U (.sk<|.sk<|.sk<|.sk<|.sk<|.sk<|.sk<|.sk<|.pickT rfl rfl<|.nil) fun Y U=>wct U ?_
     replace U:=U.oz [1,71,72,73]
     refine hC U (.assign rfl .nil) fun Y U=>rt1 U ?_
     exact⟨false,rfl,iff_of_false (by simp) (fun h=>by obtain⟨v1,v2,v3,v4,v5,v6,v7,v8,v9⟩:=h;first|(have aa:=v9 k hk;rw[jq hes] at aa;have ab:=aa.1;dsimp only at ab;omega)|(have aa:=v9 k hk;rw[jq hes] at aa;have ac:=hib.2 aa.2;exact absurd (ac.symm.trans ‹ib=false›) (by decide))|exact hN v1|omega|(have aa:=hpb.2 v8;subst aa;first|exact absurd ‹true=false› (by decide)|exact absurd ‹(!true)=true› (by decide))|(simp_all;done)|(simp_all;omega)),ao.below⟩
    intro aU U;try simp only [QQ,Qax] at aU
    refine g9 U (.faZ 1 rfl U51<|.loadB1Z ao (i:=9) rfl rfl rfl U3 rfl<|.faZ 2 rfl U51<|.loadB1Z ao (i:=9) rfl rfl rfl U3 rfl<|.faZ 1 rfl j1<|.loadB1Z ao (i:=101) rfl rfl rfl U36 rfl .nil) fun Y U=>stz U (ecl U Tryz.func113 rfl (ko _ _ xl _ _ _ _ ((ay.now' ao rfl).any) (hwl _ (List.mem_of_getElem? hes))) ?_)
    rintro e di ⟨ib,rfl,hib,bN⟩
    have bO:=ao.later bN
    refine⟨_,rfl,?_⟩;intro Y U
    refine gz bM U (.notZ rfl<|.pickF rfl rfl<|.nil) fun Y U=>bc U 92 ?_ ?_
    ·
     intro aV U;try simp only [QQ,Qax] at aV
     refine wct U ?_
     replace U:=U.oz [1,71,72,73]
     refine hC U (.assign rfl .nil) fun Y U=>rt1 U ?_
     exact⟨false,rfl,iff_of_false (by simp) (fun h=>by obtain⟨v1,v2,v3,v4,v5,v6,v7,v8,v9⟩:=h;first|(have aa:=v9 k hk;rw[jq hes] at aa;have ab:=aa.1;dsimp only at ab;omega)|(have aa:=v9 k hk;rw[jq hes] at aa;have ac:=hib.2 aa.2;exact absurd (ac.symm.trans ‹ib=false›) (by decide))|exact hN v1|omega|(have aa:=hpb.2 v8;subst aa;first|exact absurd ‹true=false› (by decide)|exact absurd ‹(!true)=true› (by decide))|(simp_all;done)|(simp_all;omega)),bO.below⟩
    intro aV U;try simp only [QQ,Qax] at aV
    refine wcf U<|zss (ce _ _ ?_)
    replace U:=U.oz [1,71,72,73]
    refine wp_region_lit<|g9 U (.inc (k+1)<|.move rfl .nil) fun Y U=>wpList_nil ?_
    show ∃ n',n'<_∧_
    exact⟨ws.length - (k+1),by omega,k+1,_,by omega,rfl,kp hall hes (by omega) (hib.1 (by first|assumption|simp_all)),U.only [1,71,72,73],bO.only [9]⟩
   intro aT U;try simp only [QQ,Qax] at aT
   revert U
   obtain rfl:k=ws.length:=by omega
   intro U
   refine wcf U<|wp_exit<|cc _ _<|hC U (.assign rfl .nil) fun Y U=>rt1 U ?_
   exact⟨true,rfl,iff_of_true rfl ⟨hN,by omega,by omega,by simp_all,by simp_all,by omega,by omega,hpb.1 (by simp_all),hall⟩,bn.below⟩
  intro be U;try simp only [QQ,Qax] at be
  refine g9 U (.sk<|.sk<|.sk<|.pickFZ rfl rfl<|.pickF rfl rfl<|.move rfl<|.faZ 7 rfl U51<|.loadB1Z ai (i:=20) rfl rfl rfl U4 rfl<|.notZ rfl<|.moveZ rfl .nil) fun Y U=>bc U 47 ?_ ?_
  ·
   intro aW U;try simp only [QQ,Qax] at aW
   refine gz hK3 U (.faZ 6 rfl U51<|.loadB1Z ai (i:=20) rfl rfl rfl U3 rfl<|.faZ 5 rfl U51<|.loadB1Z ai (i:=20) rfl rfl rfl U3 rfl<|.neqZ rfl rfl<|.pickTZ rfl rfl<|.pickF rfl rfl<|.nil) fun Y U=>bc U 54 ?_ ?_
   ·
    intro aX U;try simp only [QQ,Qax] at aX
    refine wct U ?_
    replace U:=U.oz [1,2]
    refine hC U (.assign rfl .nil) fun Y U=>rt1 U ?_
    exact⟨false,rfl,iff_of_false (by simp) (fun h=>by obtain⟨v1,v2,v3,v4,v5,v6,v7,v8,v9⟩:=h;first|(have aa:=v9 k hk;rw[jq hes] at aa;have ab:=aa.1;dsimp only at ab;omega)|(have aa:=v9 k hk;rw[jq hes] at aa;have ac:=hib.2 aa.2;exact absurd (ac.symm.trans ‹ib=false›) (by decide))|exact hN v1|omega|(have aa:=hpb.2 v8;subst aa;first|exact absurd ‹true=false› (by decide)|exact absurd ‹(!true)=true› (by decide))|(simp_all;done)|(simp_all;omega)),ai.below⟩
   intro aX U;try simp only [QQ,Qax] at aX
   refine wcf U<|zss<|hK2 _ _<|wsk fun dY ch=>wsk fun dZ bp =>?_
   replace U:=U.oz [1,2]
   have bq:=ai.oz [20,21,22]
   refine region_p 15 (B:=[(20,_),(21,_),(22,_)]) (bq.to i3l) bq (by kernel_rfl) (fun dj ag aY =>?_);clear bq
   refine goR ag [0,1,2,3] [1] 4 0 15 U (aY.to i3l) (.fa 8 rfl U51<|.lb hh 20 U2 rfl rfl rfl<|.lss rfl rfl<|.move rfl .nil) fun Y U=>bc U 58 ?_ ?_
   ·
    intro aZ U;try simp only [QQ,Qax] at aZ
    refine goA ag [4,5,6,7,8,9,10,11,12,13,14] 11 15 32767 U (aY.to i3l) (.s<|.s<|.s<|.s<|.s<|.pickT rfl rfl<|.move rfl<|.s<|.s<|.s<|.pickT rfl rfl .nil) fun Y U=>wad<|bp _ _<|wct U ?_
    replace U:=U.oz [1,2]
    refine hC U (.assign rfl .nil) fun Y U=>rt1 U ?_
    exact⟨false,rfl,iff_of_false (by simp) (fun h=>by obtain⟨v1,v2,v3,v4,v5,v6,v7,v8,v9⟩:=h;first|(have aa:=v9 k hk;rw[jq hes] at aa;have ab:=aa.1;dsimp only at ab;omega)|(have aa:=v9 k hk;rw[jq hes] at aa;have ac:=hib.2 aa.2;exact absurd (ac.symm.trans ‹ib=false›) (by decide))|exact hN v1|omega|(have aa:=hpb.2 v8;subst aa;first|exact absurd ‹true=false› (by decide)|exact absurd ‹(!true)=true› (by decide))|(simp_all;done)|(simp_all;omega)),aY.below⟩
   intro aZ U;try simp only [QQ,Qax] at aZ
   refine goR ag [4,5,6] [5,6] 3 15 127 U (aY.to i3l) (.fa 8 rfl U51<|.lb hh 20 U2 rfl rfl rfl<|.loadBR hh (i:=20) rfl rfl U51 rfl hH (by simp) (by dsimp only [List.drop,List.take] <;> rfl) .nil) fun Y U=>ig 7 rfl (by kernel_rfl) (iq U rfl rfl rfl rfl)<|fun K hK=>iw U Tryz.func111 rfl rfl rfl rfl (je _ _ _ _ _ _ _ _ _ _ _ _ _ _ _ _ _ _) ?_
   rintro e dk ⟨rfl,bP⟩
   have ap:=aY.later bP
   refine⟨_,rfl,?_⟩;intro Y U
   refine hK _ _ (ap.to i3l) ?_;clear hK K
   refine goA ag [8,9,10] 3 255 2047 U (ap.to i3l) (.gtr rfl rfl<|.pickF rfl rfl<|.move rfl .nil) fun Y U=>bc U 65 ?_ ?_
   ·
    intro a0 U;try simp only [QQ,Qax] at a0
    refine goA ag [11,12,13,14] 4 2047 32767 U (ap.to i3l) (.s<|.s<|.s<|.pickT rfl rfl .nil) fun Y U=>wad<|bp _ _<|wct U ?_
    replace U:=U.oz [1,2]
    refine hC U (.assign rfl .nil) fun Y U=>rt1 U ?_
    exact⟨false,rfl,iff_of_false (by simp) (fun h=>by obtain⟨v1,v2,v3,v4,v5,v6,v7,v8,v9⟩:=h;first|(have aa:=v9 k hk;rw[jq hes] at aa;have ab:=aa.1;dsimp only at ab;omega)|(have aa:=v9 k hk;rw[jq hes] at aa;have ac:=hib.2 aa.2;exact absurd (ac.symm.trans ‹ib=false›) (by decide))|exact hN v1|omega|(have aa:=hpb.2 v8;subst aa;first|exact absurd ‹true=false› (by decide)|exact absurd ‹(!true)=true› (by decide))|(simp_all;done)|(simp_all;omega)),ap.below⟩
   intro a0 U;try simp only [QQ,Qax] at a0
   refine goR ag [11] [11] 1 2047 4095 U (ap.to i3l) (.loadBR hh (i:=20) rfl rfl U51 rfl hH (by simp) (by dsimp only [List.drop,List.take] <;> rfl) .nil) fun Y U=>ig 12 rfl (by kernel_rfl) (iq U rfl rfl rfl rfl)<|fun K hK=>iw U Tryz.func112 rfl rfl rfl rfl (lA _ _ _ _ _ _ _ _ place pins ws _ _ _ _ _ _ _ ((h1.now' ap rfl).any) hp) ?_
   rintro e dl ⟨pb,rfl,hpb,bQ⟩
   have aF:=ap.later bQ
   refine⟨_,rfl,?_⟩;intro Y U
   refine hK _ _ (aF.to i3l) ?_;clear hK K
   refine goA ag [13,14] 2 8191 32767 U (aF.to i3l) (.not rfl<|.pickF rfl rfl .nil) fun Y U=>wad<|bp _ _<|bc U 69 ?_ ?_
   ·
    intro a1 U;try simp only [QQ,Qax] at a1
    refine wct U ?_
    replace U:=U.oz [1,2]
    refine hC U (.assign rfl .nil) fun Y U=>rt1 U ?_
    exact⟨false,rfl,iff_of_false (by simp) (fun h=>by obtain⟨v1,v2,v3,v4,v5,v6,v7,v8,v9⟩:=h;first|(have aa:=v9 k hk;rw[jq hes] at aa;have ab:=aa.1;dsimp only at ab;omega)|(have aa:=v9 k hk;rw[jq hes] at aa;have ac:=hib.2 aa.2;exact absurd (ac.symm.trans ‹ib=false›) (by decide))|exact hN v1|omega|(have aa:=hpb.2 v8;subst aa;first|exact absurd ‹true=false› (by decide)|exact absurd ‹(!true)=true› (by decide))|(simp_all;done)|(simp_all;omega)),aF.below⟩
   intro a1 U;try simp only [QQ,Qax] at a1
   refine wcf U<|zss<|ch _ _<|wsk fun d0 ci =>?_
   replace U:=U.oz [1,2]
   refine hC U (.fa 10 rfl U51<|.lb aF 20 U49 rfl rfl rfl<|.len rfl U49<|.move rfl .nil) fun Y U=>wp_block<|wp_loop_ghost (fun g a w => ∃ (k B:Nat),k≤ws.length∧g=ws.length - k∧lj bl sz ws k∧Has 94 [(1,.pointer (some ⟨B,0,none⟩)),(71,.slice pw ws.length cw),(72,.int .i64 ws.length),(73,.int .i64 k)] a∧MemOk (cn w0) w0 [(9,.box B 51 [.int .i64 vo,.int .i64 bl,.int .i64 sz,.int .i64 pe,.slice pp place.length cp,.int .i64 to,.int .i64 ne,.bool hi,.int .i64 fl,.slice pn pins.length cn9,.slice pw ws.length cw])] w) (ws.length) ?_ ?_
   · exact⟨0,_,Nat.zero_le _,rfl,(fun j hj=>by omega),U.only [1,71,72,73],aF.ren [(9,20)] (by decide)⟩
   clear U aF
   rintro g Y dm ⟨k,B,hkl,hg,hall,U,br⟩
   refine hC U (.lss rfl rfl .nil) fun Y U=>wsk fun d1 cj=>bc U 74 ?_ ?_
   ·
    intro a2 U;try simp only [QQ,Qax] at a2
    have hk:k<ws.length:=by omega
    obtain⟨⟨xs,xl⟩,hes⟩:∃ e,ws[k]? = some e:=⟨_,List.getElem?_eq_getElem hk⟩
    refine wct U<|zss<|cj _ _<|wsk fun d2 ck=>wp_block<|zsr fun d3 cl=>g9 U (.move rfl .nil) fun Y U =>?_
    obtain⟨cM,cN,cO,bR,cP,bS,bs⟩:=h2.extA (k) (r:=[.v (.int .i64 xs),.l 2 (xl.map itD)]) (iI hes)
    revert U
    cases bR
    rcases bS with _|⟨az,_|⟨aA,_|_⟩⟩
    obtain rfl:=az.v_out
    clear az
    obtain⟨dn,dp,bT,cQ⟩:=aA.l_shape;subst bT
    intro U
    refine g9 U (.c rfl (fun _ h_=>ii h_ rfl rfl U49 jR (k) rfl hk)<|.loadAt (bs br rfl) rfl j1 rfl jR .nil) fun Y U=>plz<|hZ U br 101 qr rfl fun dq Y dr U cm _ _=>g9 U (.assign rfl .nil) fun Y U=>plz (stw U cm 101 jR fun ds aq _ =>?_)
    refine znl<|cl _ _<|zsr fun d4 bU=>g9 U (.fa 0 rfl j1<|.lb aq 101 U2 rfl rfl rfl<|.move rfl<|.add rfl rfl (r:=((k:Nat):Int)+1) (IntWalk.i64_in _ (by omega))<|.neq rfl rfl<|.move rfl .nil) fun Y U=>bc U 83 ?_ ?_
    ·
     intro a3 U;try simp only [QQ,Qax] at a3
     refine gz bU U (.sk<|.sk<|.sk<|.sk<|.sk<|.sk<|.sk<|.sk<|.pickT rfl rfl<|.nil) fun Y U=>wct U ?_
     replace U:=U.oz [1,71,72,73]
     refine hC U (.assign rfl .nil) fun Y U=>rt1 U ?_
     exact⟨false,rfl,iff_of_false (by simp) (fun h=>by obtain⟨v1,v2,v3,v4,v5,v6,v7,v8,v9⟩:=h;first|(have aa:=v9 k hk;rw[jq hes] at aa;have ab:=aa.1;dsimp only at ab;omega)|(have aa:=v9 k hk;rw[jq hes] at aa;have ac:=hib.2 aa.2;exact absurd (ac.symm.trans ‹ib=false›) (by decide))|exact hN v1|omega|(have aa:=hpb.2 v8;subst aa;first|exact absurd ‹true=false› (by decide)|exact absurd ‹(!true)=true› (by decide))|(simp_all;done)|(simp_all;omega)),aq.below⟩
    intro a3 U;try simp only [QQ,Qax] at a3
    refine g9 U (.faZ 1 rfl U51<|.loadB1Z aq (i:=9) rfl rfl rfl U3 rfl<|.faZ 2 rfl U51<|.loadB1Z aq (i:=9) rfl rfl rfl U3 rfl<|.faZ 1 rfl j1<|.loadB1Z aq (i:=101) rfl rfl rfl U36 rfl .nil) fun Y U=>stz U (ecl U Tryz.func113 rfl (ko _ _ xl _ _ _ _ ((aA.now' aq rfl).any) (hwl _ (List.mem_of_getElem? hes))) ?_)
    rintro e dt ⟨ib,rfl,hib,bV⟩
    have bW:=aq.later bV
    refine⟨_,rfl,?_⟩;intro Y U
    refine gz bU U (.notZ rfl<|.pickF rfl rfl<|.nil) fun Y U=>bc U 92 ?_ ?_
    ·
     intro a4 U;try simp only [QQ,Qax] at a4
     refine wct U ?_
     replace U:=U.oz [1,71,72,73]
     refine hC U (.assign rfl .nil) fun Y U=>rt1 U ?_
     exact⟨false,rfl,iff_of_false (by simp) (fun h=>by obtain⟨v1,v2,v3,v4,v5,v6,v7,v8,v9⟩:=h;first|(have aa:=v9 k hk;rw[jq hes] at aa;have ab:=aa.1;dsimp only at ab;omega)|(have aa:=v9 k hk;rw[jq hes] at aa;have ac:=hib.2 aa.2;exact absurd (ac.symm.trans ‹ib=false›) (by decide))|exact hN v1|omega|(have aa:=hpb.2 v8;subst aa;first|exact absurd ‹true=false› (by decide)|exact absurd ‹(!true)=true› (by decide))|(simp_all;done)|(simp_all;omega)),bW.below⟩
    intro a4 U;try simp only [QQ,Qax] at a4
    refine wcf U<|zss (ck _ _ ?_)
    replace U:=U.oz [1,71,72,73]
    refine wp_region_lit<|g9 U (.inc (k+1)<|.move rfl .nil) fun Y U=>wpList_nil ?_
    show ∃ n',n'<_∧_
    exact⟨ws.length - (k+1),by omega,k+1,_,by omega,rfl,kp hall hes (by omega) (hib.1 (by first|assumption|simp_all)),U.only [1,71,72,73],bW.only [9]⟩
   intro a2 U;try simp only [QQ,Qax] at a2
   revert U
   obtain rfl:k=ws.length:=by omega
   intro U
   refine wcf U<|wp_exit<|ci _ _<|hC U (.assign rfl .nil) fun Y U=>rt1 U ?_
   exact⟨true,rfl,iff_of_true rfl ⟨hN,by omega,by omega,by simp_all,by simp_all,by omega,by omega,hpb.1 (by simp_all),hall⟩,br.below⟩
  intro aW U;try simp only [QQ,Qax] at aW
  refine gz hK3 U (.sk<|.sk<|.sk<|.sk<|.sk<|.pickFZ rfl rfl<|.pickF rfl rfl<|.nil) fun Y U=>wcf U<|zss<|hK2 _ _<|wsk fun d5 co=>wsk fun d6 bt =>?_
  replace U:=U.oz [1,2]
  have bu:=ai.oz [20,21,22]
  refine region_p 15 (B:=[(20,_),(21,_),(22,_)]) (bu.to i3l) bu (by kernel_rfl) (fun du ah a5 =>?_);clear bu
  refine goR ah [0,1,2,3] [1] 4 0 15 U (a5.to i3l) (.fa 8 rfl U51<|.lb hh 20 U2 rfl rfl rfl<|.lss rfl rfl<|.move rfl .nil) fun Y U=>bc U 58 ?_ ?_
  ·
   intro a6 U;try simp only [QQ,Qax] at a6
   refine goA ah [4,5,6,7,8,9,10,11,12,13,14] 11 15 32767 U (a5.to i3l) (.s<|.s<|.s<|.s<|.s<|.pickT rfl rfl<|.move rfl<|.s<|.s<|.s<|.pickT rfl rfl .nil) fun Y U=>wad<|bt _ _<|wct U ?_
   replace U:=U.oz [1,2]
   refine hC U (.assign rfl .nil) fun Y U=>rt1 U ?_
   exact⟨false,rfl,iff_of_false (by simp) (fun h=>by obtain⟨v1,v2,v3,v4,v5,v6,v7,v8,v9⟩:=h;first|(have aa:=v9 k hk;rw[jq hes] at aa;have ab:=aa.1;dsimp only at ab;omega)|(have aa:=v9 k hk;rw[jq hes] at aa;have ac:=hib.2 aa.2;exact absurd (ac.symm.trans ‹ib=false›) (by decide))|exact hN v1|omega|(have aa:=hpb.2 v8;subst aa;first|exact absurd ‹true=false› (by decide)|exact absurd ‹(!true)=true› (by decide))|(simp_all;done)|(simp_all;omega)),a5.below⟩
  intro a6 U;try simp only [QQ,Qax] at a6
  refine goR ah [4,5,6] [5,6] 3 15 127 U (a5.to i3l) (.fa 8 rfl U51<|.lb hh 20 U2 rfl rfl rfl<|.loadBR hh (i:=20) rfl rfl U51 rfl hH (by simp) (by dsimp only [List.drop,List.take] <;> rfl) .nil) fun Y U=>ig 7 rfl (by kernel_rfl) (iq U rfl rfl rfl rfl)<|fun K hK=>iw U Tryz.func111 rfl rfl rfl rfl (je _ _ _ _ _ _ _ _ _ _ _ _ _ _ _ _ _ _) ?_
  rintro e dv ⟨rfl,bX⟩
  have ar:=a5.later bX
  refine⟨_,rfl,?_⟩;intro Y U
  refine hK _ _ (ar.to i3l) ?_;clear hK K
  refine goA ah [8,9,10] 3 255 2047 U (ar.to i3l) (.gtr rfl rfl<|.pickF rfl rfl<|.move rfl .nil) fun Y U=>bc U 65 ?_ ?_
  ·
   intro a7 U;try simp only [QQ,Qax] at a7
   refine goA ah [11,12,13,14] 4 2047 32767 U (ar.to i3l) (.s<|.s<|.s<|.pickT rfl rfl .nil) fun Y U=>wad<|bt _ _<|wct U ?_
   replace U:=U.oz [1,2]
   refine hC U (.assign rfl .nil) fun Y U=>rt1 U ?_
   exact⟨false,rfl,iff_of_false (by simp) (fun h=>by obtain⟨v1,v2,v3,v4,v5,v6,v7,v8,v9⟩:=h;first|(have aa:=v9 k hk;rw[jq hes] at aa;have ab:=aa.1;dsimp only at ab;omega)|(have aa:=v9 k hk;rw[jq hes] at aa;have ac:=hib.2 aa.2;exact absurd (ac.symm.trans ‹ib=false›) (by decide))|exact hN v1|omega|(have aa:=hpb.2 v8;subst aa;first|exact absurd ‹true=false› (by decide)|exact absurd ‹(!true)=true› (by decide))|(simp_all;done)|(simp_all;omega)),ar.below⟩
  intro a7 U;try simp only [QQ,Qax] at a7
  refine goR ah [11] [11] 1 2047 4095 U (ar.to i3l) (.loadBR hh (i:=20) rfl rfl U51 rfl hH (by simp) (by dsimp only [List.drop,List.take] <;> rfl) .nil) fun Y U=>ig 12 rfl (by kernel_rfl) (iq U rfl rfl rfl rfl)<|fun K hK=>iw U Tryz.func112 rfl rfl rfl rfl (lA _ _ _ _ _ _ _ _ place pins ws _ _ _ _ _ _ _ ((h1.now' ar rfl).any) hp) ?_
  rintro e dw ⟨pb,rfl,hpb,bY⟩
  have aG:=ar.later bY
  refine⟨_,rfl,?_⟩;intro Y U
  refine hK _ _ (aG.to i3l) ?_;clear hK K
  refine goA ah [13,14] 2 8191 32767 U (aG.to i3l) (.not rfl<|.pickF rfl rfl .nil) fun Y U=>wad<|bt _ _<|bc U 69 ?_ ?_
  ·
   intro a8 U;try simp only [QQ,Qax] at a8
   refine wct U ?_
   replace U:=U.oz [1,2]
   refine hC U (.assign rfl .nil) fun Y U=>rt1 U ?_
   exact⟨false,rfl,iff_of_false (by simp) (fun h=>by obtain⟨v1,v2,v3,v4,v5,v6,v7,v8,v9⟩:=h;first|(have aa:=v9 k hk;rw[jq hes] at aa;have ab:=aa.1;dsimp only at ab;omega)|(have aa:=v9 k hk;rw[jq hes] at aa;have ac:=hib.2 aa.2;exact absurd (ac.symm.trans ‹ib=false›) (by decide))|exact hN v1|omega|(have aa:=hpb.2 v8;subst aa;first|exact absurd ‹true=false› (by decide)|exact absurd ‹(!true)=true› (by decide))|(simp_all;done)|(simp_all;omega)),aG.below⟩
  intro a8 U;try simp only [QQ,Qax] at a8
  refine wcf U<|zss<|co _ _<|wsk fun d7 cq =>?_
  replace U:=U.oz [1,2]
  refine hC U (.fa 10 rfl U51<|.lb aG 20 U49 rfl rfl rfl<|.len rfl U49<|.move rfl .nil) fun Y U=>wp_block<|wp_loop_ghost (fun g a w => ∃ (k B:Nat),k≤ws.length∧g=ws.length - k∧lj bl sz ws k∧Has 94 [(1,.pointer (some ⟨B,0,none⟩)),(71,.slice pw ws.length cw),(72,.int .i64 ws.length),(73,.int .i64 k)] a∧MemOk (cn w0) w0 [(9,.box B 51 [.int .i64 vo,.int .i64 bl,.int .i64 sz,.int .i64 pe,.slice pp place.length cp,.int .i64 to,.int .i64 ne,.bool hi,.int .i64 fl,.slice pn pins.length cn9,.slice pw ws.length cw])] w) (ws.length) ?_ ?_
  · exact⟨0,_,Nat.zero_le _,rfl,(fun j hj=>by omega),U.only [1,71,72,73],aG.ren [(9,20)] (by decide)⟩
  clear U aG
  rintro g Y dx ⟨k,B,hkl,hg,hall,U,bv⟩
  refine hC U (.lss rfl rfl .nil) fun Y U=>wsk fun d8 cr=>bc U 74 ?_ ?_
  ·
   intro a9 U;try simp only [QQ,Qax] at a9
   have hk:k<ws.length:=by omega
   obtain⟨⟨xs,xl⟩,hes⟩:∃ e,ws[k]? = some e:=⟨_,List.getElem?_eq_getElem hk⟩
   refine wct U<|zss<|cr _ _<|wsk fun d9 ct=>wp_block<|zsr fun ea cu=>g9 U (.move rfl .nil) fun Y U =>?_
   obtain⟨cR,cS,cT,bZ,cU,b0,bw⟩:=h2.extA (k) (r:=[.v (.int .i64 xs),.l 2 (xl.map itD)]) (iI hes)
   revert U
   cases bZ
   rcases b0 with _|⟨aB,_|⟨aC,_|_⟩⟩
   obtain rfl:=aB.v_out
   clear aB
   obtain⟨dy,dz,b1,cV⟩:=aC.l_shape;subst b1
   intro U
   refine g9 U (.c rfl (fun _ h_=>ii h_ rfl rfl U49 jR (k) rfl hk)<|.loadAt (bw bv rfl) rfl j1 rfl jR .nil) fun Y U=>plz<|hZ U bv 101 qr rfl fun dA Y dB U cv _ _=>g9 U (.assign rfl .nil) fun Y U=>plz (stw U cv 101 jR fun dC au _ =>?_)
   refine znl<|cu _ _<|zsr fun eb b4=>g9 U (.fa 0 rfl j1<|.lb au 101 U2 rfl rfl rfl<|.move rfl<|.add rfl rfl (r:=((k:Nat):Int)+1) (IntWalk.i64_in _ (by omega))<|.neq rfl rfl<|.move rfl .nil) fun Y U=>bc U 83 ?_ ?_
   ·
    intro ba U;try simp only [QQ,Qax] at ba
    refine gz b4 U (.sk<|.sk<|.sk<|.sk<|.sk<|.sk<|.sk<|.sk<|.pickT rfl rfl<|.nil) fun Y U=>wct U ?_
    replace U:=U.oz [1,71,72,73]
    refine hC U (.assign rfl .nil) fun Y U=>rt1 U ?_
    exact⟨false,rfl,iff_of_false (by simp) (fun h=>by obtain⟨v1,v2,v3,v4,v5,v6,v7,v8,v9⟩:=h;first|(have aa:=v9 k hk;rw[jq hes] at aa;have ab:=aa.1;dsimp only at ab;omega)|(have aa:=v9 k hk;rw[jq hes] at aa;have ac:=hib.2 aa.2;exact absurd (ac.symm.trans ‹ib=false›) (by decide))|exact hN v1|omega|(have aa:=hpb.2 v8;subst aa;first|exact absurd ‹true=false› (by decide)|exact absurd ‹(!true)=true› (by decide))|(simp_all;done)|(simp_all;omega)),au.below⟩
   intro ba U;try simp only [QQ,Qax] at ba
   refine g9 U (.faZ 1 rfl U51<|.loadB1Z au (i:=9) rfl rfl rfl U3 rfl<|.faZ 2 rfl U51<|.loadB1Z au (i:=9) rfl rfl rfl U3 rfl<|.faZ 1 rfl j1<|.loadB1Z au (i:=101) rfl rfl rfl U36 rfl .nil) fun Y U=>stz U (ecl U Tryz.func113 rfl (ko _ _ xl _ _ _ _ ((aC.now' au rfl).any) (hwl _ (List.mem_of_getElem? hes))) ?_)
   rintro e dD ⟨ib,rfl,hib,b5⟩
   have b6:=au.later b5
   refine⟨_,rfl,?_⟩;intro Y U
   refine gz b4 U (.notZ rfl<|.pickF rfl rfl<|.nil) fun Y U=>bc U 92 ?_ ?_
   ·
    intro bb U;try simp only [QQ,Qax] at bb
    refine wct U ?_
    replace U:=U.oz [1,71,72,73]
    refine hC U (.assign rfl .nil) fun Y U=>rt1 U ?_
    exact⟨false,rfl,iff_of_false (by simp) (fun h=>by obtain⟨v1,v2,v3,v4,v5,v6,v7,v8,v9⟩:=h;first|(have aa:=v9 k hk;rw[jq hes] at aa;have ab:=aa.1;dsimp only at ab;omega)|(have aa:=v9 k hk;rw[jq hes] at aa;have ac:=hib.2 aa.2;exact absurd (ac.symm.trans ‹ib=false›) (by decide))|exact hN v1|omega|(have aa:=hpb.2 v8;subst aa;first|exact absurd ‹true=false› (by decide)|exact absurd ‹(!true)=true› (by decide))|(simp_all;done)|(simp_all;omega)),b6.below⟩
   intro bb U;try simp only [QQ,Qax] at bb
   refine wcf U<|zss (ct _ _ ?_)
   replace U:=U.oz [1,71,72,73]
   refine wp_region_lit<|g9 U (.inc (k+1)<|.move rfl .nil) fun Y U=>wpList_nil ?_
   show ∃ n',n'<_∧_
   exact⟨ws.length - (k+1),by omega,k+1,_,by omega,rfl,kp hall hes (by omega) (hib.1 (by first|assumption|simp_all)),U.only [1,71,72,73],b6.only [9]⟩
  intro a9 U;try simp only [QQ,Qax] at a9
  revert U
  obtain rfl:k=ws.length:=by omega
  intro U
  refine wcf U<|wp_exit<|cq _ _<|hC U (.assign rfl .nil) fun Y U=>rt1 U ?_
  exact⟨true,rfl,iff_of_true rfl ⟨hN,by omega,by omega,by simp_all,by simp_all,by omega,by omega,hpb.1 (by simp_all),hall⟩,bv.below⟩
 refine wp_region_lit<|g9 U (.fa 0 rfl U51<|.lb m2 20 U3 rfl rfl rfl<|.fa 1 rfl U51<|.lb m2 20 U3 rfl rfl rfl<|.fa 2 rfl U51<|.lb m2 20 U3 rfl rfl rfl<|.fa 3 rfl U51<|.lb m2 20 U3 rfl rfl rfl<|.fa 4 rfl U51<|.lb m2 20 U35 rfl rfl rfl<|.fa 5 rfl U51<|.lb m2 20 U3 rfl rfl rfl<|.build rfl i8 uk rfl (by dsimp only [iY,List.set] <;> rfl) .nil) fun Y U=>plz<|ecb U Tryz.func95 rfl m2 (wF _ _ _ _ _ _ _ _ place _ _ _ _ _ _ ((h0.now' m2 rfl).any) hn hN) fun Y dE U cy=>g9 U (.move rfl<|.extract rfl rfl<|.extract rfl rfl .nil) fun Y U=>plz<|hZ U cy 21 iA rfl fun dF Y dG U cz _ _=>plz (stw U cz 21 hH fun dH cA _ =>?_)
 refine gz hK1 U (.assign rfl .nil) fun Y U=>wsk fun ec dI =>?_
 replace U:=U.oz [1,2,4]
 refine zsr fun ed cB=>g9 U (.move rfl<|.neq rfl rfl<|.move rfl .nil) fun Y U=>bc U 26 ?_ ?_
 rotate_left
 · intro hb _;exact absurd hb (by simp)
 clear U;intro _ U
 refine g9 U (.sk<|.sk<|.sk<|.sk<|.sk<|.sk<|.pickT rfl rfl<|.move rfl<|.sk<|.sk<|.sk .nil) fun Y U=>iE U rfl rfl rfl rfl fun Y U=>iE U rfl rfl rfl rfl fun Y U=>iE U rfl rfl rfl rfl fun Y U=>g9 U (.sk<|.pickT rfl rfl<|.move rfl<|.sk<|.sk<|.sk<|.sk .nil) fun Y U=>iE U rfl rfl rfl rfl fun Y U=>iE U rfl rfl rfl rfl fun Y U=>iE U rfl rfl rfl rfl fun Y U=>iE U rfl rfl rfl rfl fun Y U=>iE U rfl rfl rfl rfl fun Y U=>gz cB U (.sk<|.pickT rfl rfl<|.nil) fun Y U=>wct U ?_
 replace U:=U.oz [1,2]
 refine hC U (.assign rfl .nil) fun Y U=>rt1 U ?_
 exact⟨false,rfl,iff_of_false (by simp) (fun h=>by obtain⟨v1,v2,v3,v4,v5,v6,v7,v8,v9⟩:=h;first|(have aa:=v9 k hk;rw[jq hes] at aa;have ab:=aa.1;dsimp only at ab;omega)|(have aa:=v9 k hk;rw[jq hes] at aa;have ac:=hib.2 aa.2;exact absurd (ac.symm.trans ‹ib=false›) (by decide))|exact hN v1|omega|(have aa:=hpb.2 v8;subst aa;first|exact absurd ‹true=false› (by decide)|exact absurd ‹(!true)=true› (by decide))|(simp_all;done)|(simp_all;omega)),cA.below⟩
end
end Go.Proofs.YtkehgingagggaaaGreat.K
