/- General laws of walks. -/
import Derived.Test.YteglmahnkfgelaaGreatG7
import Derived.Test.YteglmahnkfgelaaGreatG4
import Derived.Sort.OwnSortedInts
import Derived.Lib.Slices
namespace Go.Proofs.YteglmahnkfgelaaGreat.K
open Go.ChangeShapes Go.WideShapes Go.ChangeAt Go.RowKit
set_option linter.unusedVariables false
set_option linter.unusedSimpArgs false
set_option maxRecDepth 100000
set_option maxHeartbeats 4000000
set_option autoImplicit true
set_option relaxedAutoImplicit true
section
theorem xC:lR Tryz.prog 34 [.int .i64 0,.int .i64 0,.int .i64 0,.int .i64 0,.slice none 0 0,.int .i64 0,.int .i64 0,.bool false,.int .i64 0,.slice none 0 0,.slice none 0 0]=true:=by kernel_rfl
theorem yS:lR Tryz.prog 125 [.int .i64 0,.int .i64 0,.int .i64 0,.int .i64 0,.int .i64 0,.slice none 0 0,.int .i64 0,.int .i64 0,.int .i64 0,.slice none 0 0]=true:=by kernel_rfl
theorem yT:lR Tryz.prog 78 [.int .i64 0,.slice none 0 0]=true:=by kernel_rfl
def lg(d:List Int):Prop:=∀ x∈d,0≤x∧x≤255
theorem oT{d:List Int}{z:Int}(h:lg d)(hz:0≤z∧z≤255):lg (d++[z]):=fun x hx=>by
 rcases List.mem_append.1 hx with h1|h1
 · exact h x h1
 simp at h1;subst h1;exact hz
def crL(px:Int)(i:Nat):List Int:=(List.range i).map (fun j:Nat=>1+((j:Int)+px) % 2)
theorem su(px:Int)(i:Nat):(crL px i).length=i:=by simp [crL]
theorem wK(px:Int)(i:Nat):crL px (i+1)=crL px i++[1+((i:Int)+px) % 2]:=by simp [crL,List.range_succ]
theorem zP(px:Int)(i:Nat):∀ g∈crL px i,1≤g∧g≤7:=fun g hg=>by
 obtain⟨j,-,rfl⟩:=List.mem_map.1 hg
 omega
def ItsB(es:List (Int×List Int)):Prop:=∀ e∈es,e.2.length≤1000000∧lg e.2
theorem ItsB.ok{es:List (Int×List Int)}(h:ItsB es):rx es:=fun e he=>Nat.le_trans (h e he).1 (by decide)
theorem u6{es:List (Int×List Int)}{b:Int}{d:List Int}(h:ItsB es)(h1:d.length≤1000000)(h2:lg d):ItsB (es++[(b,d)]):=fun e he=>by
 rcases List.mem_append.1 he with h3|h3
 · exact h e h3
 simp at h3;subst h3;exact⟨h1,h2⟩
theorem u7{bl sz:Int}{it:List (Int×List Int)}{b:Int}{d:List Int}(h:qJ bl sz it it.length)(hb:0≤b∧b<bl)(hs:(d.length:Int)=sz)(hn:¬ ∃ e∈it,e.1=b):qJ bl sz (it++[(b,d)]) (it.length+1):=fun j hj=>by
 rcases Nat.lt_or_ge j it.length with h1|h1
 · have h2:=h j h1
   rw[show(it++[(b,d)]).getD j i0=it.getD j i0 by simp [List.getD,List.getElem?_append,h1],List.take_append_of_le_length (by omega)]
   exact h2
 obtain rfl:j=it.length:=by omega
 rw[show(it++[(b,d)]).getD it.length i0=(b,d) by simp [List.getD],List.take_left]
 exact⟨hb.1,hb.2,hs,hn⟩
theorem qg{it:List (Int×List Int)}{j:Nat}{b yb:Int}{yd:List Int}{tb:Bool}(h:tb=true↔∃ e∈it.take j,e.1=b)(hit:it[j]? = some (yb,yd)):(tb || decide (yb=b))=true↔∃ e∈it.take (j+1),e.1=b:=by
 rw[ln hit,Bool.or_eq_true,h,decide_eq_true_eq]
 constructor
 · rintro(⟨e,h1,h2⟩|h1)
   · exact⟨e,List.mem_append_left _ h1,h2⟩
   exact⟨_,List.mem_append_right _ (List.mem_singleton.2 rfl),h1⟩
 rintro⟨e,h1,h2⟩
 rcases List.mem_append.1 h1 with h3|h3
 · exact .inl ⟨e,h3,h2⟩
 simp at h3;subst h3;exact .inr h2
theorem tN(es:List (Int×List Int))(p1 p2:Option Addr)(n1 n2 c1 c2:Nat)(w0:World)(h1:Rd (fun _=>True) w0 (.slice p1 n1 c1) (.l 2 (es.map itD)))(h2:Rd (fun _=>True) w0 (.slice p2 n2 c2) (.l 2 (es.map itD)))(hl:es.length≤1000000) :
   Calls Tryz.prog 98 #[.slice p1 n1 c1,.slice p2 n2 c2] w0 fun e w'=>e=.returned (.bool true)∧Below w0.heap.size w0 w':=by
 obtain rfl:n1=es.length:=by obtain⟨pq,cq,hv,_⟩:=h1.l_shape;injection hv with _ e2 _;rw[List.length_map] at e2;exact e2
 obtain rfl:n2=es.length:=by obtain⟨pq,cq,hv,_⟩:=h2.l_shape;injection hv with _ e2 _;rw[List.length_map] at e2;exact e2
 refine mR Tryz.func98 rfl Tryz.ntmps98 fun Y U =>?_
 have m0:=MemOk.start (fun _=>False) w0
 refine la U (.assign rfl .nil) fun Y U =>?_
 refine wsk fun K0 hK0 =>?_
 refine la U (.move rfl<|.len rfl U28<|.move rfl<|.len rfl U28<|.neq rfl rfl .nil) fun Y U =>?_
 refine bcF U 10 fun U =>?_
 refine wcf U ?_
 refine zss (hK0 _ _ ?_)
 refine wsk fun K1 hK1 =>?_
 refine la U (.assign rfl .nil) fun Y U =>?_
 refine wp_block ?_
 refine wp_loop_ghost (fun g a w => ∃ k:Nat,k≤es.length∧g=es.length - k∧Has 43 [(0,.slice p1 es.length c1),(1,.slice p2 es.length c2),(5,.int .i64 k)] a∧MemOk (cn w0) w0 [] w) (es.length) ?_ ?_
 · exact⟨0,Nat.zero_le _,rfl,U.only [0,1,5],m0.only []⟩
 clear U m0
 rintro g Y w9 ⟨k,hkl,hg,U,m9⟩
 refine wsk fun K2 hK2 =>?_
 refine la U (.move rfl<|.move rfl<|.len rfl U28<|.lss rfl rfl .nil) fun Y U =>?_
 refine bc U 14 ?_ ?_
 ·
  intro ah U;try simp only [QQ,Qax] at ah
  have hk:k<es.length:=by omega
  obtain⟨⟨xb,xd⟩,hes⟩:∃ e,es[k]? = some e:=⟨_,List.getElem?_eq_getElem hk⟩
  refine wct U ?_
  refine zss (hK2 _ _ ?_)
  refine wsk fun K3 hK3 =>?_
  refine wp_block ?_
  refine wsk fun K4 hK4 =>?_
  obtain⟨aH,aI,aJ,ar,aK,au,ak⟩:=h1.extA (k) (r:=[.v (.int .i64 xb),.ns .u8 xd]) (lm hes)
  revert U
  cases ar
  rcases au with _|⟨aa,_|⟨ai,_|_⟩⟩
  obtain rfl:=aa.v_out
  clear aa
  obtain⟨a1,a2,av,aL⟩:=ai.ns_shape;subst av
  intro U
  obtain⟨aM,aN,aO,aw,aP,ax,al⟩:=h2.extA (k) (r:=[.v (.int .i64 xb),.ns .u8 xd]) (lm hes)
  revert U
  cases aw
  rcases ax with _|⟨ab,_|⟨aj,_|_⟩⟩
  obtain rfl:=ab.v_out
  clear ab
  obtain⟨a3,a4,ay,aQ⟩:=aj.ns_shape;subst ay
  intro U
  obtain⟨aR,aS,aT,az,aU,aA,ao⟩:=h1.extA (k) (r:=[.v (.int .i64 xb),.ns .u8 xd]) (lm hes)
  revert U
  cases az
  rcases aA with _|⟨ac,_|⟨ad,_|_⟩⟩
  obtain rfl:=ac.v_out
  clear ac
  obtain⟨a5,a6,aB,aV⟩:=ad.ns_shape;subst aB
  intro U
  obtain⟨aW,aX,aY,aC,aZ,aD,ap⟩:=h2.extA (k) (r:=[.v (.int .i64 xb),.ns .u8 xd]) (lm hes)
  revert U
  cases aC
  rcases aD with _|⟨ae,_|⟨ag,_|_⟩⟩
  obtain rfl:=ae.v_out
  clear ae
  obtain⟨a7,a8,aE,a0⟩:=ag.ns_shape;subst aE
  intro U
  have aF:MemOk _ _ [] _:=m9.only [];clear m9
  refine region_p 26 (B:=[]) (aF.to trivial) aF (by kernel_rfl) (fun a9 aq aG =>?_);clear aF
  refine goR aq [0,1,2,3,4,5,6,7,8,9,10,11] [4,9] 12 0 4095 U (aG.to trivial) (.move rfl<|.move rfl<|.p (fun _ _ h_=>li h_ rfl rfl U28 lX (k) rfl hk)<|.fieldAddrQ 0 rfl U78 rfl (s:=0) (by kernel_rfl) rfl<|.loadAt1 (fun _ h_=>(ak h_ rfl)) (q:=0) rfl rfl rfl U3 rfl<|.move rfl<|.move rfl<|.p (fun _ _ h_=>li h_ rfl rfl U28 lX (k) rfl hk)<|.fieldAddrQ 0 rfl U78 rfl (s:=0) (by kernel_rfl) rfl<|.loadAt1 (fun _ h_=>(al h_ rfl)) (q:=0) rfl rfl rfl U3 rfl<|.neq rfl rfl<|.move rfl .nil) fun Y U =>?_
  refine bcF U 28 fun U =>?_
  refine goR aq [12,13,14,15,16,17,18,19,20,21,22,23,24,25] [16,17,22,23] 14 4095 67108863 U (aG.to trivial) (.move rfl<|.move rfl<|.p (fun _ _ h_=>li h_ rfl rfl U28 lX (k) rfl hk)<|.fieldAddrQ 1 rfl U78 rfl (s:=0) (by kernel_rfl) rfl<|.loadAt1 (fun _ h_=>(ao h_ rfl)) (q:=1) rfl rfl rfl U22 rfl<|.str rfl (fun _ h_=>(ad.now' h_ rfl).ns_out.nums) U22 U5 U9<|.move rfl<|.move rfl<|.p (fun _ _ h_=>li h_ rfl rfl U28 lX (k) rfl hk)<|.fieldAddrQ 1 rfl U78 rfl (s:=0) (by kernel_rfl) rfl<|.loadAt1 (fun _ h_=>(ap h_ rfl)) (q:=1) rfl rfl rfl U22 rfl<|.str rfl (fun _ h_=>(ag.now' h_ rfl).ns_out.nums) U22 U5 U9<|.neqS rfl rfl<|.pickF rfl rfl .nil) fun Y U =>?_
  refine wad ?_
  refine hK4 _ _ ?_
  refine bcF U 42 fun U =>?_
  refine wcf U ?_
  refine zss (hK3 _ _ ?_)
  replace U:=U.oz [0,1,5]
  refine wp_region_lit ?_
  refine k9 U (.move rfl<|.inc (k+1)<|.assign rfl .nil) fun Y U =>?_
  refine wpList_nil ?_
  show ∃ n',n'<_∧_
  exact⟨es.length - (k+1),by omega,k+1,by omega,rfl,U.only [0,1,5],aG.only []⟩
 intro ah U;try simp only [QQ,Qax] at ah
 revert U
 obtain rfl:k=es.length:=by omega
 intro U
 refine wcf U ?_
 refine wp_exit ?_
 refine hK1 _ _ ?_
 refine la U (.assign rfl .nil) fun Y U =>?_
 refine rt1 U ?_
 exact⟨by simp,m9.below⟩
theorem rR(es:List (Int×List (Int×List Int)))(p1 p2:Option Addr)(n1 n2 c1 c2:Nat)(w0:World)(h1:Rd (fun _=>True) w0 (.slice p1 n1 c1) (.l 2 (es.map wrD)))(h2:Rd (fun _=>True) w0 (.slice p2 n2 c2) (.l 2 (es.map wrD)))(hl:es.length≤1000000)(hl2:∀ e∈es,e.2.length≤1000000) :
   Calls Tryz.prog 63 #[.slice p1 n1 c1,.slice p2 n2 c2] w0 fun e w'=>e=.returned (.bool true)∧Below w0.heap.size w0 w':=by
 obtain rfl:n1=es.length:=by obtain⟨pq,cq,hv,_⟩:=h1.l_shape;injection hv with _ e2 _;rw[List.length_map] at e2;exact e2
 obtain rfl:n2=es.length:=by obtain⟨pq,cq,hv,_⟩:=h2.l_shape;injection hv with _ e2 _;rw[List.length_map] at e2;exact e2
 refine mR Tryz.func63 rfl Tryz.ntmps63 fun Y U =>?_
 have m0:=MemOk.start (fun _=>False) w0
 refine la U (.assign rfl .nil) fun Y U =>?_
 refine wsk fun K0 hK0 =>?_
 refine la U (.move rfl<|.len rfl U23<|.move rfl<|.len rfl U23<|.neq rfl rfl .nil) fun Y U =>?_
 refine bcF U 10 fun U =>?_
 refine wcf U ?_
 refine zss (hK0 _ _ ?_)
 refine wsk fun K1 hK1 =>?_
 refine la U (.assign rfl .nil) fun Y U =>?_
 refine wp_block ?_
 refine wp_loop_ghost (fun g a w => ∃ k:Nat,k≤es.length∧g=es.length - k∧Has 42 [(0,.slice p1 es.length c1),(1,.slice p2 es.length c2),(5,.int .i64 k)] a∧MemOk (cn w0) w0 [] w) (es.length) ?_ ?_
 · exact⟨0,Nat.zero_le _,rfl,U.only [0,1,5],m0.only []⟩
 clear U m0
 rintro g Y w9 ⟨k,hkl,hg,U,m9⟩
 refine wsk fun K2 hK2 =>?_
 refine la U (.move rfl<|.move rfl<|.len rfl U23<|.lss rfl rfl .nil) fun Y U =>?_
 refine bc U 14 ?_ ?_
 ·
  intro ah U;try simp only [QQ,Qax] at ah
  have hk:k<es.length:=by omega
  obtain⟨⟨xs,xl⟩,hes⟩:∃ e,es[k]? = some e:=⟨_,List.getElem?_eq_getElem hk⟩
  refine wct U ?_
  refine zss (hK2 _ _ ?_)
  refine wsk fun K3 hK3 =>?_
  refine wp_block ?_
  refine wsk fun K4 hK4 =>?_
  obtain⟨aJ,aK,aL,au,aM,av,al⟩:=h1.extA (k) (r:=[.v (.int .i64 xs),.l 2 (xl.map itD)]) (mj hes)
  revert U
  cases au
  rcases av with _|⟨aa,_|⟨ai,_|_⟩⟩
  obtain rfl:=aa.v_out
  clear aa
  obtain⟨a3,a4,aw,aN⟩:=ai.l_shape;subst aw
  intro U
  obtain⟨aO,aP,aQ,ax,aR,ay,ao⟩:=h2.extA (k) (r:=[.v (.int .i64 xs),.l 2 (xl.map itD)]) (mj hes)
  revert U
  cases ax
  rcases ay with _|⟨ab,_|⟨aj,_|_⟩⟩
  obtain rfl:=ab.v_out
  clear ab
  obtain⟨a5,a6,az,aS⟩:=aj.l_shape;subst az
  intro U
  obtain⟨aT,aU,aV,aA,aW,aB,ap⟩:=h1.extA (k) (r:=[.v (.int .i64 xs),.l 2 (xl.map itD)]) (mj hes)
  revert U
  cases aA
  rcases aB with _|⟨ac,_|⟨ad,_|_⟩⟩
  obtain rfl:=ac.v_out
  clear ac
  obtain⟨a7,a8,aC,aX⟩:=ad.l_shape;subst aC
  intro U
  obtain⟨aY,aZ,a0,aD,a1,aE,aq⟩:=h2.extA (k) (r:=[.v (.int .i64 xs),.l 2 (xl.map itD)]) (mj hes)
  revert U
  cases aD
  rcases aE with _|⟨ae,_|⟨ag,_|_⟩⟩
  obtain rfl:=ae.v_out
  clear ae
  obtain⟨a9,ba,aF,a2⟩:=ag.l_shape;subst aF
  intro U
  have aG:MemOk _ _ [] _:=m9.only [];clear m9
  refine region_p 25 (B:=[]) (aG.to trivial) aG (by kernel_rfl) (fun bb ak ar =>?_);clear aG
  refine goR ak [0,1,2,3,4,5,6,7,8,9,10,11] [4,9] 12 0 4095 U (ar.to trivial) (.move rfl<|.move rfl<|.p (fun _ _ h_=>li h_ rfl rfl U23 nV (k) rfl hk)<|.fieldAddrQ 0 rfl U30 rfl (s:=0) (by kernel_rfl) rfl<|.loadAt1 (fun _ h_=>(al h_ rfl)) (q:=0) rfl rfl rfl U2 rfl<|.move rfl<|.move rfl<|.p (fun _ _ h_=>li h_ rfl rfl U23 nV (k) rfl hk)<|.fieldAddrQ 0 rfl U30 rfl (s:=0) (by kernel_rfl) rfl<|.loadAt1 (fun _ h_=>(ao h_ rfl)) (q:=0) rfl rfl rfl U2 rfl<|.neq rfl rfl<|.move rfl .nil) fun Y U =>?_
  refine bcF U 28 fun U =>?_
  refine goR ak [12,13,14,15,16,17,18,19,20,21] [16,21] 10 4095 4194303 U (ar.to trivial) (.move rfl<|.move rfl<|.p (fun _ _ h_=>li h_ rfl rfl U23 nV (k) rfl hk)<|.fieldAddrQ 1 rfl U30 rfl (s:=0) (by kernel_rfl) rfl<|.loadAt1 (fun _ h_=>(ap h_ rfl)) (q:=1) rfl rfl rfl U28 rfl<|.move rfl<|.move rfl<|.p (fun _ _ h_=>li h_ rfl rfl U23 nV (k) rfl hk)<|.fieldAddrQ 1 rfl U30 rfl (s:=0) (by kernel_rfl) rfl<|.loadAt1 (fun _ h_=>(aq h_ rfl)) (q:=1) rfl rfl rfl U28 rfl .nil) fun Y U =>?_
  refine lh 22 rfl (by kernel_rfl) (lA U rfl rfl rfl rfl) (fun K hK =>?_)
  refine lG U Tryz.func98 rfl rfl rfl rfl (tN xl _ _ _ _ _ _ _ ((ad.now' ar rfl).any) ((ag.now' ar rfl).any) (hl2 _ (List.mem_of_getElem? hes))) ?_
  rintro e bd ⟨rfl,aH⟩
  have aI:=ar.later aH
  refine⟨_,rfl,?_⟩;intro Y U
  refine hK _ _ (aI.to trivial) ?_;clear hK K
  refine goA ak [23,24] 2 8388607 33554431 U (aI.to trivial) (.not rfl<|.pickF rfl rfl .nil) fun Y U =>?_
  refine wad ?_
  refine hK4 _ _ ?_
  refine wcf U ?_
  refine zss (hK3 _ _ ?_)
  replace U:=U.oz [0,1,5]
  refine wp_region_lit ?_
  refine k9 U (.move rfl<|.inc (k+1)<|.assign rfl .nil) fun Y U =>?_
  refine wpList_nil ?_
  show ∃ n',n'<_∧_
  exact⟨es.length - (k+1),by omega,k+1,by omega,rfl,U.only [0,1,5],aI.only []⟩
 intro ah U;try simp only [QQ,Qax] at ah
 revert U
 obtain rfl:k=es.length:=by omega
 intro U
 refine wcf U ?_
 refine wp_exit ?_
 refine hK1 _ _ ?_
 refine la U (.assign rfl .nil) fun Y U =>?_
 refine rt1 U ?_
 exact⟨by simp,m9.below⟩
theorem tO(kd vo bl sz pe to at0 ix:Int)(place:List Int)(pp pi:Option Addr)(cp ni ci:Nat)(w0:World)(h0:Rd (fun _=>True) w0 (.slice pp place.length cp) (.ns .i64 place))(hn:place.length≤1000000) :
   Calls Tryz.prog 110 #[.agg #[.int .i64 kd,.int .i64 vo,.int .i64 bl,.int .i64 sz,.int .i64 pe,.slice pp place.length cp,.int .i64 to,.int .i64 at0,.int .i64 ix,.slice pi ni ci]] w0 fun e w' => ∃ b:Bool,e=.returned (.bool b)∧(b=true↔pU vo bl sz pe to place)∧Below w0.heap.size w0 w':=by
 refine mp Tryz.func110 rfl Tryz.ntmps110 fun Y U =>?_
 have m0:=MemOk.start (fun _=>False) w0
 refine zsr fun K0 hK0 =>?_
 refine plz (ly U m0 20 (cs:=[_,_,_,_,_,_,_,_,_,_]) rfl rfl rfl fun g1 Y w2 U m2 _ _ =>?_)
 refine gz hK0 U (.assign rfl .nil) fun Y U =>?_
 refine wsk fun K1 hK1 =>?_
 refine wsk fun K2 hK2 =>?_
 have m4:=m2.oz [20]
 refine region_p 61 (B:=[(20,_)]) (m4.to i1l) m4 (by kernel_rfl) (fun w5 hP5 m5 =>?_);clear m4
 refine goR hP5 [0,1,2,3] [1] 4 0 15 U (m5.to i1l) (.fa 1 rfl lx<|.lb hh 20 U3 rfl rfl rfl<|.lss rfl rfl<|.move rfl .nil) fun Y U =>?_
 refine bc U 7 ?_ ?_
 ·
  intro ax U;try simp only [QQ,Qax] at ax
  refine goA hP5 [4,5,6,7,8,9,10,11,12,13,14,15,16,17,18,19,20,21,22,23,24,25,26,27,28,29,30,31,32,33,34,35,36,37,38,39,40,41,42,43,44,45,46,47,48,49,50,51,52,53,54,55,56,57,58,59,60] 57 15 2305843009213693951 U (m5.to i1l) (.s<|.s<|.s<|.pickT rfl rfl<|.move rfl<|.s<|.s<|.s<|.pickT rfl rfl<|.move rfl<|.s<|.s<|.s<|.pickT rfl rfl<|.move rfl<|.s<|.s<|.s<|.pickT rfl rfl<|.move rfl<|.s<|.s<|.s<|.pickT rfl rfl<|.move rfl<|.s<|.s<|.s<|.pickT rfl rfl<|.move rfl<|.s<|.s<|.s<|.s<|.s<|.pickT rfl rfl<|.move rfl<|.s<|.s<|.s<|.s<|.s<|.s<|.s<|.s<|.s<|.pickT rfl rfl<|.move rfl<|.s<|.s<|.s<|.pickT rfl rfl<|.move rfl<|.s<|.s<|.s<|.pickT rfl rfl .nil) fun Y U =>?_
  refine wad ?_
  refine hK2 _ _ ?_
  refine wct U ?_
  replace U:=U.oz [1,2]
  refine la U (.assign rfl .nil) fun Y U =>?_
  refine rt1 U ?_
  exact⟨false,rfl,iff_of_false (by simp) (fun h=>by obtain⟨h1,h2,h3,h4,h5,h6,h7,h8,⟨h9,ac⟩,ad,ae⟩:=h;first|omega|(have ag:=h9 _ (l1 hk);omega)),m5.below⟩
 intro ax U;try simp only [QQ,Qax] at ax
 refine goR hP5 [4,5,6,7,8] [5] 5 15 511 U (m5.to i1l) (.fa 1 rfl lx<|.lb hh 20 U3 rfl rfl rfl<|.geq rfl rfl<|.pickF rfl rfl<|.move rfl .nil) fun Y U =>?_
 refine bc U 12 ?_ ?_
 ·
  intro ay U;try simp only [QQ,Qax] at ay
  refine goA hP5 [9,10,11,12,13,14,15,16,17,18,19,20,21,22,23,24,25,26,27,28,29,30,31,32,33,34,35,36,37,38,39,40,41,42,43,44,45,46,47,48,49,50,51,52,53,54,55,56,57,58,59,60] 52 511 2305843009213693951 U (m5.to i1l) (.s<|.s<|.s<|.pickT rfl rfl<|.move rfl<|.s<|.s<|.s<|.pickT rfl rfl<|.move rfl<|.s<|.s<|.s<|.pickT rfl rfl<|.move rfl<|.s<|.s<|.s<|.pickT rfl rfl<|.move rfl<|.s<|.s<|.s<|.pickT rfl rfl<|.move rfl<|.s<|.s<|.s<|.s<|.s<|.pickT rfl rfl<|.move rfl<|.s<|.s<|.s<|.s<|.s<|.s<|.s<|.s<|.s<|.pickT rfl rfl<|.move rfl<|.s<|.s<|.s<|.pickT rfl rfl<|.move rfl<|.s<|.s<|.s<|.pickT rfl rfl .nil) fun Y U =>?_
  refine wad ?_
  refine hK2 _ _ ?_
  refine wct U ?_
  replace U:=U.oz [1,2]
  refine la U (.assign rfl .nil) fun Y U =>?_
  refine rt1 U ?_
  exact⟨false,rfl,iff_of_false (by simp) (fun h=>by obtain⟨h1,h2,h3,h4,h5,h6,h7,h8,⟨h9,ac⟩,ad,ae⟩:=h;first|omega|(have ag:=h9 _ (l1 hk);omega)),m5.below⟩
 intro ay U;try simp only [QQ,Qax] at ay
 refine goR hP5 [9,10,11,12,13] [10] 5 511 16383 U (m5.to i1l) (.fa 2 rfl lx<|.lb hh 20 U3 rfl rfl rfl<|.lss rfl rfl<|.pickF rfl rfl<|.move rfl .nil) fun Y U =>?_
 refine bc U 17 ?_ ?_
 ·
  intro ah U;try simp only [QQ,Qax] at ah
  refine goA hP5 [14,15,16,17,18,19,20,21,22,23,24,25,26,27,28,29,30,31,32,33,34,35,36,37,38,39,40,41,42,43,44,45,46,47,48,49,50,51,52,53,54,55,56,57,58,59,60] 47 16383 2305843009213693951 U (m5.to i1l) (.s<|.s<|.s<|.pickT rfl rfl<|.move rfl<|.s<|.s<|.s<|.pickT rfl rfl<|.move rfl<|.s<|.s<|.s<|.pickT rfl rfl<|.move rfl<|.s<|.s<|.s<|.pickT rfl rfl<|.move rfl<|.s<|.s<|.s<|.s<|.s<|.pickT rfl rfl<|.move rfl<|.s<|.s<|.s<|.s<|.s<|.s<|.s<|.s<|.s<|.pickT rfl rfl<|.move rfl<|.s<|.s<|.s<|.pickT rfl rfl<|.move rfl<|.s<|.s<|.s<|.pickT rfl rfl .nil) fun Y U =>?_
  refine wad ?_
  refine hK2 _ _ ?_
  refine wct U ?_
  replace U:=U.oz [1,2]
  refine la U (.assign rfl .nil) fun Y U =>?_
  refine rt1 U ?_
  exact⟨false,rfl,iff_of_false (by simp) (fun h=>by obtain⟨h1,h2,h3,h4,h5,h6,h7,h8,⟨h9,ac⟩,ad,ae⟩:=h;first|omega|(have ag:=h9 _ (l1 hk);omega)),m5.below⟩
 intro ah U;try simp only [QQ,Qax] at ah
 refine goR hP5 [14,15,16,17,18] [15] 5 16383 524287 U (m5.to i1l) (.fa 2 rfl lx<|.lb hh 20 U3 rfl rfl rfl<|.gtr rfl rfl<|.pickF rfl rfl<|.move rfl .nil) fun Y U =>?_
 refine bc U 22 ?_ ?_
 ·
  intro ai U;try simp only [QQ,Qax] at ai
  refine goA hP5 [19,20,21,22,23,24,25,26,27,28,29,30,31,32,33,34,35,36,37,38,39,40,41,42,43,44,45,46,47,48,49,50,51,52,53,54,55,56,57,58,59,60] 42 524287 2305843009213693951 U (m5.to i1l) (.s<|.s<|.s<|.pickT rfl rfl<|.move rfl<|.s<|.s<|.s<|.pickT rfl rfl<|.move rfl<|.s<|.s<|.s<|.pickT rfl rfl<|.move rfl<|.s<|.s<|.s<|.s<|.s<|.pickT rfl rfl<|.move rfl<|.s<|.s<|.s<|.s<|.s<|.s<|.s<|.s<|.s<|.pickT rfl rfl<|.move rfl<|.s<|.s<|.s<|.pickT rfl rfl<|.move rfl<|.s<|.s<|.s<|.pickT rfl rfl .nil) fun Y U =>?_
  refine wad ?_
  refine hK2 _ _ ?_
  refine wct U ?_
  replace U:=U.oz [1,2]
  refine la U (.assign rfl .nil) fun Y U =>?_
  refine rt1 U ?_
  exact⟨false,rfl,iff_of_false (by simp) (fun h=>by obtain⟨h1,h2,h3,h4,h5,h6,h7,h8,⟨h9,ac⟩,ad,ae⟩:=h;first|omega|(have ag:=h9 _ (l1 hk);omega)),m5.below⟩
 intro ai U;try simp only [QQ,Qax] at ai
 refine goR hP5 [19,20,21,22,23] [20] 5 524287 16777215 U (m5.to i1l) (.fa 3 rfl lx<|.lb hh 20 U3 rfl rfl rfl<|.lss rfl rfl<|.pickF rfl rfl<|.move rfl .nil) fun Y U =>?_
 refine bc U 27 ?_ ?_
 ·
  intro aj U;try simp only [QQ,Qax] at aj
  refine goA hP5 [24,25,26,27,28,29,30,31,32,33,34,35,36,37,38,39,40,41,42,43,44,45,46,47,48,49,50,51,52,53,54,55,56,57,58,59,60] 37 16777215 2305843009213693951 U (m5.to i1l) (.s<|.s<|.s<|.pickT rfl rfl<|.move rfl<|.s<|.s<|.s<|.pickT rfl rfl<|.move rfl<|.s<|.s<|.s<|.s<|.s<|.pickT rfl rfl<|.move rfl<|.s<|.s<|.s<|.s<|.s<|.s<|.s<|.s<|.s<|.pickT rfl rfl<|.move rfl<|.s<|.s<|.s<|.pickT rfl rfl<|.move rfl<|.s<|.s<|.s<|.pickT rfl rfl .nil) fun Y U =>?_
  refine wad ?_
  refine hK2 _ _ ?_
  refine wct U ?_
  replace U:=U.oz [1,2]
  refine la U (.assign rfl .nil) fun Y U =>?_
  refine rt1 U ?_
  exact⟨false,rfl,iff_of_false (by simp) (fun h=>by obtain⟨h1,h2,h3,h4,h5,h6,h7,h8,⟨h9,ac⟩,ad,ae⟩:=h;first|omega|(have ag:=h9 _ (l1 hk);omega)),m5.below⟩
 intro aj U;try simp only [QQ,Qax] at aj
 refine goR hP5 [24,25,26,27,28] [25] 5 16777215 536870911 U (m5.to i1l) (.fa 3 rfl lx<|.lb hh 20 U3 rfl rfl rfl<|.gtr rfl rfl<|.pickF rfl rfl<|.move rfl .nil) fun Y U =>?_
 refine bc U 32 ?_ ?_
 ·
  intro ak U;try simp only [QQ,Qax] at ak
  refine goA hP5 [29,30,31,32,33,34,35,36,37,38,39,40,41,42,43,44,45,46,47,48,49,50,51,52,53,54,55,56,57,58,59,60] 32 536870911 2305843009213693951 U (m5.to i1l) (.s<|.s<|.s<|.pickT rfl rfl<|.move rfl<|.s<|.s<|.s<|.s<|.s<|.pickT rfl rfl<|.move rfl<|.s<|.s<|.s<|.s<|.s<|.s<|.s<|.s<|.s<|.pickT rfl rfl<|.move rfl<|.s<|.s<|.s<|.pickT rfl rfl<|.move rfl<|.s<|.s<|.s<|.pickT rfl rfl .nil) fun Y U =>?_
  refine wad ?_
  refine hK2 _ _ ?_
  refine wct U ?_
  replace U:=U.oz [1,2]
  refine la U (.assign rfl .nil) fun Y U =>?_
  refine rt1 U ?_
  exact⟨false,rfl,iff_of_false (by simp) (fun h=>by obtain⟨h1,h2,h3,h4,h5,h6,h7,h8,⟨h9,ac⟩,ad,ae⟩:=h;first|omega|(have ag:=h9 _ (l1 hk);omega)),m5.below⟩
 intro ak U;try simp only [QQ,Qax] at ak
 refine goR hP5 [29,30,31,32,33] [30] 5 536870911 17179869183 U (m5.to i1l) (.fa 4 rfl lx<|.lb hh 20 U3 rfl rfl rfl<|.lss rfl rfl<|.pickF rfl rfl<|.move rfl .nil) fun Y U =>?_
 refine bc U 37 ?_ ?_
 ·
  intro al U;try simp only [QQ,Qax] at al
  refine goA hP5 [34,35,36,37,38,39,40,41,42,43,44,45,46,47,48,49,50,51,52,53,54,55,56,57,58,59,60] 27 17179869183 2305843009213693951 U (m5.to i1l) (.s<|.s<|.s<|.s<|.s<|.pickT rfl rfl<|.move rfl<|.s<|.s<|.s<|.s<|.s<|.s<|.s<|.s<|.s<|.pickT rfl rfl<|.move rfl<|.s<|.s<|.s<|.pickT rfl rfl<|.move rfl<|.s<|.s<|.s<|.pickT rfl rfl .nil) fun Y U =>?_
  refine wad ?_
  refine hK2 _ _ ?_
  refine wct U ?_
  replace U:=U.oz [1,2]
  refine la U (.assign rfl .nil) fun Y U =>?_
  refine rt1 U ?_
  exact⟨false,rfl,iff_of_false (by simp) (fun h=>by obtain⟨h1,h2,h3,h4,h5,h6,h7,h8,⟨h9,ac⟩,ad,ae⟩:=h;first|omega|(have ag:=h9 _ (l1 hk);omega)),m5.below⟩
 intro al U;try simp only [QQ,Qax] at al
 refine goR hP5 [34,35,36,37,38,39,40] [35,37] 7 17179869183 2199023255551 U (m5.to i1l) (.fa 4 rfl lx<|.lb hh 20 U3 rfl rfl rfl<|.fa 2 rfl lx<|.lb hh 20 U3 rfl rfl rfl<|.gtr rfl rfl<|.pickF rfl rfl<|.move rfl .nil) fun Y U =>?_
 refine bc U 44 ?_ ?_
 ·
  intro ao U;try simp only [QQ,Qax] at ao
  refine goA hP5 [41,42,43,44,45,46,47,48,49,50,51,52,53,54,55,56,57,58,59,60] 20 2199023255551 2305843009213693951 U (m5.to i1l) (.s<|.s<|.s<|.s<|.s<|.s<|.s<|.s<|.s<|.pickT rfl rfl<|.move rfl<|.s<|.s<|.s<|.pickT rfl rfl<|.move rfl<|.s<|.s<|.s<|.pickT rfl rfl .nil) fun Y U =>?_
  refine wad ?_
  refine hK2 _ _ ?_
  refine wct U ?_
  replace U:=U.oz [1,2]
  refine la U (.assign rfl .nil) fun Y U =>?_
  refine rt1 U ?_
  exact⟨false,rfl,iff_of_false (by simp) (fun h=>by obtain⟨h1,h2,h3,h4,h5,h6,h7,h8,⟨h9,ac⟩,ad,ae⟩:=h;first|omega|(have ag:=h9 _ (l1 hk);omega)),m5.below⟩
 intro ao U;try simp only [QQ,Qax] at ao
 refine goR hP5 [41,42,43,44,45,46,47] [42,45,47] 7 2199023255551 281474976710655 U (m5.to i1l) (.fa 5 rfl lx<|.lb hh 20 U31 rfl rfl rfl<|.len rfl U31<|.fa 2 rfl lx<|.lb hh 20 U3 rfl rfl rfl<|.fa 4 rfl lx<|.lb hh 20 U3 rfl rfl rfl .nil) fun Y U =>?_
 refine lh 48 rfl (by kernel_rfl) (lA U rfl rfl rfl rfl) (fun K hK =>?_)
 refine lG U Tryz.func111 rfl rfl rfl rfl (qf bl pe _ (by omega) (by omega)) ?_
 rintro e aK ⟨rfl,aB⟩
 have aa:=m5.later aB
 refine⟨_,rfl,?_⟩;intro Y U
 refine hK _ _ (aa.to i1l) ?_;clear hK K
 refine goA hP5 [49,50,51] 3 562949953421311 4503599627370495 U (aa.to i1l) (.neq rfl rfl<|.pickF rfl rfl<|.move rfl .nil) fun Y U =>?_
 refine bc U 55 ?_ ?_
 ·
  intro ap U;try simp only [QQ,Qax] at ap
  refine goA hP5 [52,53,54,55,56,57,58,59,60] 9 4503599627370495 2305843009213693951 U (aa.to i1l) (.s<|.s<|.s<|.pickT rfl rfl<|.move rfl<|.s<|.s<|.s<|.pickT rfl rfl .nil) fun Y U =>?_
  refine wad ?_
  refine hK2 _ _ ?_
  refine wct U ?_
  replace U:=U.oz [1,2]
  refine la U (.assign rfl .nil) fun Y U =>?_
  refine rt1 U ?_
  exact⟨false,rfl,iff_of_false (by simp) (fun h=>by obtain⟨h1,h2,h3,h4,h5,h6,h7,h8,⟨h9,ac⟩,ad,ae⟩:=h;first|omega|(have ag:=h9 _ (l1 hk);omega)),aa.below⟩
 intro ap U;try simp only [QQ,Qax] at ap
 refine goR hP5 [52,53,54,55,56] [53] 5 4503599627370495 144115188075855871 U (aa.to i1l) (.fa 6 rfl lx<|.lb hh 20 U3 rfl rfl rfl<|.lss rfl rfl<|.pickF rfl rfl<|.move rfl .nil) fun Y U =>?_
 refine bc U 60 ?_ ?_
 ·
  intro aq U;try simp only [QQ,Qax] at aq
  refine goA hP5 [57,58,59,60] 4 144115188075855871 2305843009213693951 U (aa.to i1l) (.s<|.s<|.s<|.pickT rfl rfl .nil) fun Y U =>?_
  refine wad ?_
  refine hK2 _ _ ?_
  refine wct U ?_
  replace U:=U.oz [1,2]
  refine la U (.assign rfl .nil) fun Y U =>?_
  refine rt1 U ?_
  exact⟨false,rfl,iff_of_false (by simp) (fun h=>by obtain⟨h1,h2,h3,h4,h5,h6,h7,h8,⟨h9,ac⟩,ad,ae⟩:=h;first|omega|(have ag:=h9 _ (l1 hk);omega)),aa.below⟩
 intro aq U;try simp only [QQ,Qax] at aq
 refine goR hP5 [57,58,59,60] [58] 4 144115188075855871 2305843009213693951 U (aa.to i1l) (.fa 6 rfl lx<|.lb hh 20 U3 rfl rfl rfl<|.gtr rfl rfl<|.pickF rfl rfl .nil) fun Y U =>?_
 refine wad ?_
 refine hK2 _ _ ?_
 refine bc U 64 ?_ ?_
 ·
  intro ar U;try simp only [QQ,Qax] at ar
  refine wct U ?_
  replace U:=U.oz [1,2]
  refine la U (.assign rfl .nil) fun Y U =>?_
  refine rt1 U ?_
  exact⟨false,rfl,iff_of_false (by simp) (fun h=>by obtain⟨h1,h2,h3,h4,h5,h6,h7,h8,⟨h9,ac⟩,ad,ae⟩:=h;first|omega|(have ag:=h9 _ (l1 hk);omega)),aa.below⟩
 intro ar U;try simp only [QQ,Qax] at ar
 refine wcf U ?_
 refine zss (hK1 _ _ ?_)
 refine wsk fun K3 hK3 =>?_
 replace U:=U.oz [1,2]
 refine la U (.assign rfl .nil) fun Y U =>?_
 refine wp_block ?_
 refine wp_loop_ghost (fun g a w => ∃ (k B:Nat),k≤place.length∧g=place.length - k∧(∀ j,j<k→1≤place.getD j 0∧place.getD j 0≤7)∧Has 86 [(1,.pointer (some ⟨B,0,none⟩)),(3,.int .i64 k)] a∧MemOk (cn w0) w0 [(9,.box B 125 [.int .i64 kd,.int .i64 vo,.int .i64 bl,.int .i64 sz,.int .i64 pe,.slice pp place.length cp,.int .i64 to,.int .i64 at0,.int .i64 ix,.slice pi ni ci])] w) (place.length) ?_ ?_
 · exact⟨0,_,Nat.zero_le _,rfl,(fun j hj=>by omega),U.only [1,3],aa.ren [(9,20)] (by decide)⟩
 clear U aa
 rintro g Y aL ⟨k,B,hkl,hg,hall,U,ab⟩
 refine wsk fun K4 hK4 =>?_
 refine la U (.move rfl<|.fa 5 rfl lx<|.lb ab 9 U31 rfl rfl rfl<|.len rfl U31<|.lss rfl rfl .nil) fun Y U =>?_
 refine bc U 69 ?_ ?_
 ·
  intro au U;try simp only [QQ,Qax] at au
  have hk:k<place.length:=by omega
  refine wct U ?_
  refine zss (hK4 _ _ ?_)
  refine wsk fun K5 hK5 =>?_
  refine wp_block ?_
  refine zsr fun K6 hK6 =>?_
  refine k9 U (.fa 5 rfl lx<|.lb ab 9 U31 rfl rfl rfl<|.move rfl .nil) fun Y U =>?_
  obtain⟨aE,aF,aC,aG,az⟩:=h0.extN (k) hk
  revert U
  cases aC
  intro U
  refine k9 U (.c rfl (fun _ h_=>li h_ rfl rfl U31 ma (k) rfl hk)<|.loadAt1 (az ab rfl) (q:=0) rfl rfl rfl U3 rfl<|.lss rfl rfl<|.move rfl .nil) fun Y U =>?_
  refine bc U 78 ?_ ?_
  ·
   intro av U;try simp only [QQ,Qax] at av
   refine gz hK6 U (.sk<|.sk<|.sk<|.sk<|.sk<|.sk<|.pickT rfl rfl<|.nil) fun Y U =>?_
   refine wct U ?_
   replace U:=U.oz [1,3]
   refine la U (.assign rfl .nil) fun Y U =>?_
   refine rt1 U ?_
   exact⟨false,rfl,iff_of_false (by simp) (fun h=>by obtain⟨h1,h2,h3,h4,h5,h6,h7,h8,⟨h9,ac⟩,ad,ae⟩:=h;first|omega|(have ag:=h9 _ (l1 hk);omega)),ab.below⟩
  intro av U;try simp only [QQ,Qax] at av
  refine k9 U (.faZ 5 rfl lx<|.loadB1Z ab (i:=9) rfl rfl rfl U31 rfl<|.moveZ rfl .nil) fun Y U =>?_
  obtain⟨aH,aI,aD,aJ,aA⟩:=h0.extN (k) hk
  revert U
  cases aD
  intro U
  refine gz hK6 U (.g rfl rfl rfl rfl (fun _ h_=>li h_ rfl rfl U31 ma (k) rfl hk)<|.loadAt1Z (aA ab rfl) (q:=0) rfl rfl rfl U3 rfl<|.geqZ rfl rfl<|.pickF rfl rfl<|.nil) fun Y U =>?_
  refine bc U 85 ?_ ?_
  ·
   intro aw U;try simp only [QQ,Qax] at aw
   refine wct U ?_
   replace U:=U.oz [1,3]
   refine la U (.assign rfl .nil) fun Y U =>?_
   refine rt1 U ?_
   exact⟨false,rfl,iff_of_false (by simp) (fun h=>by obtain⟨h1,h2,h3,h4,h5,h6,h7,h8,⟨h9,ac⟩,ad,ae⟩:=h;first|omega|(have ag:=h9 _ (l1 hk);omega)),ab.below⟩
  intro aw U;try simp only [QQ,Qax] at aw
  refine wcf U ?_
  refine zss (hK5 _ _ ?_)
  replace U:=U.oz [1,3]
  refine wp_region_lit ?_
  refine k9 U (.move rfl<|.inc (k+1)<|.assign rfl .nil) fun Y U =>?_
  refine wpList_nil ?_
  show ∃ n',n'<_∧_
  exact⟨place.length - (k+1),by omega,k+1,_,by omega,rfl,(wJ (P:=fun x=>1≤x∧x≤7) hall (by omega)),U.only [1,3],ab.only [9]⟩
 intro au U;try simp only [QQ,Qax] at au
 revert U
 obtain rfl:k=place.length:=by omega
 intro U
 refine wcf U ?_
 refine wp_exit ?_
 refine hK3 _ _ ?_
 refine la U (.assign rfl .nil) fun Y U =>?_
 refine rt1 U ?_
 exact⟨true,rfl,iff_of_true rfl ⟨by omega,by omega,by omega,by omega,by omega,by omega,by omega,by omega,⟨fun g hg9=>yR (P:=fun x=>1≤x∧x≤7) hall g hg9,by omega⟩,by omega,by omega⟩,ab.below⟩
theorem s6(kd vo bl sz pe to at0 ix:Int)(place:List Int)(pp pi:Option Addr)(cp ni ci:Nat)(w0:World)(h0:Rd (fun _=>True) w0 (.slice pp place.length cp) (.ns .i64 place))(hn:place.length≤1000000) :
   Calls Tryz.prog 76 #[.agg #[.int .i64 kd,.int .i64 vo,.int .i64 bl,.int .i64 sz,.int .i64 pe,.slice pp place.length cp,.int .i64 to,.int .i64 at0,.int .i64 ix,.slice pi ni ci]] w0 fun e w'=>(pU vo bl sz pe to place∧∃ p c,e=.returned (.tuple #[.agg #[.int .i64 vo,.int .i64 bl,.int .i64 sz,.int .i64 pe,.slice p place.length c,.int .i64 to,.int .i64 0,.bool (decide (0<to)),.int .i64 0,.slice none 0 0,.slice none 0 0],.int .i64 0])∧Rd (New w0) w' (.slice p place.length c) (.ns .i64 place)∧Below w0.heap.size w0 w')∨(¬ pU vo bl sz pe to place∧e=.returned (.tuple #[.agg #[.int .i64 0,.int .i64 0,.int .i64 0,.int .i64 0,.slice none 0 0,.int .i64 0,.int .i64 0,.bool false,.int .i64 0,.slice none 0 0,.slice none 0 0],.int .i64 23])∧Below w0.heap.size w0 w'):=by
 refine mp Tryz.func76 rfl Tryz.ntmps76 fun Y U =>?_
 have m0:=MemOk.start (fun _=>False) w0
 refine zsr fun K0 hK0 =>?_
 refine plz (ly U m0 20 (cs:=[_,_,_,_,_,_,_,_,_,_]) rfl rfl rfl fun g1 Y w2 U m2 _ _ =>?_)
 refine plz (lc U m2 21 mo rfl fun g3 Y w4 U m4 _ _ =>?_)
 refine gz hK0 U (.assign rfl .nil) fun Y U =>?_
 refine wsk fun K1 hK1 =>?_
 refine zsr fun K2 hK2 =>?_
 refine k9 U (.loadBR m4 (i:=20) rfl rfl lx rfl lY (by simp) (by dsimp only [List.drop,List.take] <;> rfl) .nil) fun Y U =>?_
 refine plz (ecl U Tryz.func110 rfl (tO _ _ _ _ _ _ _ _ place _ _ _ _ _ _ ((h0.now' m4 rfl).any) hn) ?_)
 rintro e w8 ⟨sb,rfl,hsb,hb8⟩
 have m9:=m4.later hb8
 refine⟨_,rfl,?_⟩;intro Y U
 refine gz hK2 U (.not rfl .nil) fun Y U =>?_
 refine bc U 6 ?_ ?_
 ·
  intro aa U;try simp only [QQ,Qax] at aa
  refine wct U ?_
  refine zsr fun K3 hK3 =>?_
  refine k9 U (.build rfl mo xC rfl (by dsimp only [l9,List.set] <;> rfl) .nil) fun Y U =>?_
  refine plz (stw U m9 21 ld fun aj ah _ =>?_)
  refine gz hK3 U (.assign rfl .nil) fun Y U =>?_
  refine rtd (lL (fn:=Tryz.f76) U ah (i:=21) rfl rfl rfl rfl U34 rfl ld ?_)
  exact .inr ⟨fun h=>by have ak:=hsb.2 h;simp_all,rfl,ah.below⟩
 intro aa U;try simp only [QQ,Qax] at aa
 refine wcf U ?_
 refine zss (hK1 _ _ ?_)
 refine wsk fun K4 hK4 =>?_
 have ad:=m9.oz [20,21]
 refine region_p 19 (B:=[(20,_)]) (ad.to i1l) ad (by kernel_rfl) (fun al ab ae =>?_);clear ad
 refine goR ab [0,1,2,3,4,5,6,7,8,9,11,12,13,14,15] [1,3,5,7,9,12,14] 15 0 64511 U (ae.to i1l) (.fa 1 rfl lx<|.lb hh 20 U3 rfl rfl rfl<|.fa 2 rfl lx<|.lb hh 20 U3 rfl rfl rfl<|.fa 3 rfl lx<|.lb hh 20 U3 rfl rfl rfl<|.fa 4 rfl lx<|.lb hh 20 U3 rfl rfl rfl<|.fa 5 rfl lx<|.lb hh 20 U31 rfl rfl rfl<|.fa 6 rfl lx<|.lb hh 20 U3 rfl rfl rfl<|.fa 6 rfl lx<|.lb hh 20 U3 rfl rfl rfl<|.gtr rfl rfl .nil) fun Y U =>?_
 refine so 10 ?_
 refine oa U ae 22 rfl rfl (h0.now' ae rfl).ns_out.nums U31 ov (by decide) (by omega) rfl fun ao ap Y aq U ag =>?_
 refine⟨ag.to i1l,?_⟩
 refine goA ab [16] 1 65535 131071 U (ag.to i1l) (.build rfl mo xC rfl (by dsimp only [l9,List.set] <;> rfl) .nil) fun Y U =>?_
 refine so 17 ?_
 refine stw U ag 21 ld fun ar ac _ =>?_
 refine⟨ac.to i1l,?_⟩
 refine goA ab [18] 1 262143 524287 U (ac.to i1l) (.assign rfl .nil) fun Y U =>?_
 refine wad ?_
 refine hK4 _ _ ?_
 refine rtd (lL (fn:=Tryz.f76) U ac (i:=21) rfl rfl rfl rfl U34 rfl ld ?_)
 have ai:=ac.freezeN 22 rfl
 exact .inl ⟨hsb.1 (by simp_all),_,_,rfl,ai.outF (i:=22) rfl,ai.below⟩
theorem s7(kd vo bl sz pe to at0 ix:Int)(place:List Int)(pp pi:Option Addr)(cp ni ci:Nat)(w0:World)(h0:Rd (fun _=>True) w0 (.slice pp place.length cp) (.ns .i64 place))(hn:place.length≤1000000)(hN:pU vo bl sz pe to place) :
   Calls Tryz.prog 76 #[.agg #[.int .i64 kd,.int .i64 vo,.int .i64 bl,.int .i64 sz,.int .i64 pe,.slice pp place.length cp,.int .i64 to,.int .i64 at0,.int .i64 ix,.slice pi ni ci]] w0 fun e w' => ∃ p c,e=.returned (.tuple #[.agg #[.int .i64 vo,.int .i64 bl,.int .i64 sz,.int .i64 pe,.slice p place.length c,.int .i64 to,.int .i64 0,.bool (decide (0<to)),.int .i64 0,.slice none 0 0,.slice none 0 0],.int .i64 0])∧Rd (New w0) w' (.slice p place.length c) (.ns .i64 place)∧Below w0.heap.size w0 w':=
 (s6 kd vo bl sz pe to at0 ix place pp pi cp ni ci w0 h0 hn).mono (fun _ _ h=>h.elim (fun h=>h.2) (fun h=>absurd hN h.1))
theorem wL(n:Nat)(b:Int)(w0:World)(hn:n≤1000000)(hb:0≤b∧b≤255) :
   Calls Tryz.prog 119 #[.int .i64 (n:Int),.int .u8 b] w0 fun e w' => ∃ (d:List Int) (p:Option Addr) (c:Nat),e=.returned (.slice p n c)∧d.length=n∧lg d∧Rd (New w0) w' (.slice p n c) (.ns .u8 d)∧Below w0.heap.size w0 w':=by
 refine mR Tryz.func119 rfl Tryz.ntmps119 fun Y U =>?_
 have m0:=MemOk.start (fun _=>False) w0
 refine la U (.assign rfl .nil) fun Y U =>?_
 refine la U (.assign rfl .nil) fun Y U =>?_
 refine wsk fun K0 hK0 =>?_
 refine la U (.assign rfl .nil) fun Y U =>?_
 refine wp_block ?_
 refine wp_loop_ghost (fun g a w => ∃ (k:Nat) (d:List Int) (p:Option Addr) (c:Nat),k≤n∧g=n - k∧d.length=k∧lg d∧Has 21 [(0,.int .i64 (n:Int)),(1,.int .u8 b),(5,.slice p d.length c),(6,.int .i64 k)] a∧MemOk (cn w0) w0 [(9,.num (.slice p d.length c) 5 .u8 d)] w) (n) ?_ ?_
 · have mz:=m0.nilN 9 5 .u8
   exact⟨0,[],_,_,Nat.zero_le _,rfl,rfl,(fun _ h=>by cases h),U.only [0,1,5,6],mz.only [9]⟩
 clear U m0
 rintro g Y w4 ⟨k,d,p,c,hkl,hg,hdl,hdb,U,m4⟩
 refine wsk fun K1 hK1 =>?_
 refine la U (.move rfl<|.move rfl<|.lss rfl rfl .nil) fun Y U =>?_
 refine bc U 9 ?_ ?_
 ·
  intro hb8 U;try simp only [QQ,Qax] at hb8
  have hk:k<n:=by omega
  obtain⟨z,hz,hzb⟩:∃ z,IntKind.u8.wrap (b+IntKind.u8.wrap (IntKind.u8.wrap (k:Int)*7))=z∧0≤z∧z≤255:=⟨_,rfl,rI _⟩
  refine wct U ?_
  refine zss (hK1 _ _ ?_)
  refine wsk fun K2 hK2 =>?_
  refine wp_block ?_
  refine wp_region_lit ?_
  refine k9 U (.move rfl<|.move rfl<|.move rfl<|.conv rfl U3 U5 rfl<|.mul rfl rfl rfl<|.add rfl rfl (r:=z) hz .nil) fun Y U =>?_
  refine plz (lj U m4 100 (k:=.u8) rfl rfl U22 lJ rfl rfl rfl rfl fun ad Y ae U aa =>?_)
  refine plz (lE U aa 9 rfl rfl rfl (aa.numsO (i:=100) rfl) U22 lJ (by decide) (by simp;omega) rfl fun ag ah Y ai U ac =>?_)
  refine gz hK2 U (.assign rfl .nil) fun Y U =>?_
  replace U:=U.oz [0,1,5,6]
  refine wp_region_lit ?_
  refine k9 U (.move rfl<|.inc (k+1)<|.assign rfl .nil) fun Y U =>?_
  refine wpList_nil ?_
  show ∃ n',n'<_∧_
  exact⟨n - (k+1),by omega,k+1,d++[z],_,_,by omega,rfl,by simp [hdl],oT hdb hzb,U.only [0,1,5,6],ac.only [9]⟩
 intro hb8 U;try simp only [QQ,Qax] at hb8
 revert U
 obtain rfl:k=n:=by omega
 intro U
 refine wcf U ?_
 refine wp_exit ?_
 refine hK0 _ _ ?_
 refine la U (.move rfl<|.assign rfl .nil) fun Y U =>?_
 refine rt1 U ?_
 have ab:=m4.freezeN 9 rfl
 exact⟨_,_,_,by rw[hdl],hdl,hdb,by rw[← hdl];exact ab.outF (i:=9) rfl,ab.below⟩
theorem oU(vx bx sx px to:Int)(w0:World)(hv:0≤vx∧vx≤255)(hb:0≤bx∧bx≤255)(hs:0≤sx∧sx≤255)(hp:0≤px∧px≤255) :
   Calls Tryz.prog 77 #[.int .u8 vx,.int .u8 bx,.int .u8 sx,.int .u8 px,.int .i64 to] w0 fun e w' => ∃ (bl sz pe:Int) (pl:List Int) (p:Option Addr) (c:Nat),e=.returned (.agg #[.int .i64 1,.int .i64 (vx.tmod 3),.int .i64 bl,.int .i64 sz,.int .i64 pe,.slice p pl.length c,.int .i64 to,.int .i64 0,.int .i64 0,.slice none 0 0])∧1≤bl∧bl≤9∧1≤sz∧sz≤3∧1≤pe∧pe≤bl∧u5 bl pe pl∧pl.length≤9∧Rd (New w0) w' (.slice p pl.length c) (.ns .i64 pl)∧Below w0.heap.size w0 w':=by
 refine AT Tryz.func77 rfl Tryz.ntmps77 fun Y U =>?_
 have m0:=MemOk.start (fun _=>False) w0
 obtain⟨vm,hvm,hvmb⟩:∃ x:Int,vx.tmod 3=x∧0≤x∧x≤2:=⟨_,rfl,by rw[Int.tmod_eq_emod_of_nonneg (by omega)];omega,by rw[Int.tmod_eq_emod_of_nonneg (by omega)];omega⟩
 obtain⟨b0,hb0,hb0b⟩:∃ x:Int,bx.tmod 9=x∧0≤x∧x≤8:=⟨_,rfl,by rw[Int.tmod_eq_emod_of_nonneg (by omega)];omega,by rw[Int.tmod_eq_emod_of_nonneg (by omega)];omega⟩
 obtain⟨s0,hs0,hs0b⟩:∃ x:Int,sx.tmod 3=x∧0≤x∧x≤2:=⟨_,rfl,by rw[Int.tmod_eq_emod_of_nonneg (by omega)];omega,by rw[Int.tmod_eq_emod_of_nonneg (by omega)];omega⟩
 obtain⟨bl,hbl⟩:∃ x:Int,b0+1=x:=⟨_,rfl⟩
 obtain⟨sz,hsz⟩:∃ x:Int,s0+1=x:=⟨_,rfl⟩
 obtain⟨pm,hpm,hpm1,hpm2⟩:∃ x:Int,px.tmod bl=x∧0≤x∧x<bl:=⟨_,rfl,by rw[Int.tmod_eq_emod_of_nonneg (by omega)];exact Int.emod_nonneg _ (by omega),by rw[Int.tmod_eq_emod_of_nonneg (by omega)];exact Int.emod_lt_of_pos _ (by omega)⟩
 obtain⟨cc,hcc⟩:∃ x:Int,(bl+(pm+1) - 1) / (pm+1)=x:=⟨_,rfl⟩
 have hccb:0≤cc∧cc≤9:=by
   rw[← hcc]
   have h1:=Int.ediv_nonneg (show 0≤bl+(pm+1) - 1 by omega) (show 0≤pm+1 by omega)
   refine⟨h1,?_⟩
   have h2:(bl+(pm+1) - 1) / (pm+1)<10:=Int.ediv_lt_of_lt_mul (by omega) (by have ao:10*(pm+1)=10*pm+10:=(by omega);omega)
   omega
 refine zsr fun K0 hK0 =>?_
 refine plz (lc U m0 20 ox rfl fun g1 Y w2 U m2 _ _ =>?_)
 refine znl (hK0 _ _ ?_)
 refine zsr fun K1 hK1 =>?_
 refine k9 U (.move rfl<|.rem rfl rfl (by decide) (r:=vm) hvm<|.conv rfl U5 U3 (r:=vm) (IntWalk.i64_in _ (by omega))<|.move rfl<|.rem rfl rfl (by decide) (r:=b0) hb0<|.conv rfl U5 U3 (r:=b0) (IntWalk.i64_in _ (by omega))<|.add rfl rfl (r:=bl) (by rw[hbl];exact(IntWalk.i64_in _ (by omega)))<|.move rfl<|.rem rfl rfl (by decide) (r:=s0) hs0<|.conv rfl U5 U3 (r:=s0) (IntWalk.i64_in _ (by omega))<|.add rfl rfl (r:=sz) (by rw[hsz];exact(IntWalk.i64_in _ (by omega)))<|.move rfl<|.build rfl ox yS rfl (by dsimp only [l9,List.set] <;> rfl) .nil) fun Y U =>?_
 refine plz (lc U m2 21 ox rfl fun ap Y aq U ak _ _ =>?_)
 refine plz (stw U ak 21 lY fun ar ad _ =>?_)
 refine znl (hK1 _ _ ?_)
 replace U:=U.oz [3,10,11]
 refine zsr fun K2 hK2 =>?_
 refine k9 U (.move rfl<|.conv rfl U5 U3 (r:=px) (IntWalk.i64_in _ (by omega))<|.fa 2 rfl lx<|.lb ad 21 U3 rfl rfl rfl<|.rem rfl rfl (by omega) (r:=pm) hpm<|.add rfl rfl (r:=pm+1) (IntWalk.i64_in _ (by omega))<|.fa 4 rfl lx .nil) fun Y U =>?_
 refine plz (st1 U ad 21 ma fun au ae _ =>?_)
 refine znl (hK2 _ _ ?_)
 refine wsk fun K3 hK3 =>?_
 replace U:=U.oz [3,10,11]
 refine la U (.assign rfl .nil) fun Y U =>?_
 refine wp_block ?_
 refine wp_loop_ghost (fun g a w => ∃ (i A D:Nat) (q:Option Addr) (c:Nat),(i:Int)≤cc∧g=cc.toNat - i∧Has 54 [(3,.int .u8 px),(10,.pointer (some ⟨A,0,none⟩)),(11,.pointer (some ⟨D,0,none⟩)),(12,.int .i64 (i:Int))] a∧MemOk (cn w0) w0 [(8,.box A 125 [.int .i64 0,.int .i64 0,.int .i64 0,.int .i64 0,.int .i64 0,.slice none 0 0,.int .i64 0,.int .i64 0,.int .i64 0,.slice none 0 0]),(9,.box D 125 [.int .i64 1,.int .i64 vm,.int .i64 bl,.int .i64 sz,.int .i64 (pm+1),.slice q (crL px i).length c,.int .i64 to,.int .i64 0,.int .i64 0,.slice none 0 0]),(10,.num (.slice q (crL px i).length c) 3 .i64 (crL px i))] w) (cc.toNat) ?_ ?_
 · have mz:=ae.nilN 10 3 .i64
   exact⟨0,_,_,_,_,by omega,rfl,U.only [3,10,11,12],mz.ren [(8,20),(9,21),(10,10)] (by decide)⟩
 clear U ae
 rintro g Y av ⟨i,A,D,q,c,hic,hg,U,ac⟩
 refine wsk fun K4 hK4 =>?_
 refine zsr fun K5 hK5 =>?_
 refine k9 U (.move rfl<|.fa 2 rfl lx<|.lb ac 9 U3 rfl rfl rfl<|.fa 4 rfl lx<|.lb ac 9 U3 rfl rfl rfl .nil) fun Y U =>?_
 refine plz (ecb U Tryz.func111 rfl ac (qf bl (pm+1) _ (by omega) (by omega)) fun Y aw U ab =>?_)
 refine gz hK5 U (.lss rfl rfl .nil) fun Y U =>?_
 refine bc U 39 ?_ ?_
 ·
  intro aa U;try simp only [QQ,Qax] at aa
  rw[hcc] at aa
  have hi9:(i:Int)<cc:=by omega
  refine wct U ?_
  refine zss (hK4 _ _ ?_)
  refine wsk fun K6 hK6 =>?_
  refine wp_block ?_
  replace U:=U.oz [3,10,11,12]
  refine wp_region_lit ?_
  refine k9 U (.fa 5 rfl lx<|.lb ab 9 U31 rfl rfl rfl<|.move rfl<|.move rfl<|.conv rfl U5 U3 (r:=px) (IntWalk.i64_in _ (by omega))<|.add rfl rfl (r:=(i:Int)+px) (IntWalk.i64_in _ (by omega))<|.rem rfl rfl (by decide) (Int.tmod_eq_emod_of_nonneg (by omega))<|.add rfl rfl (r:=1+((i:Int)+px) % 2) (IntWalk.i64_in _ (by omega)) .nil) fun Y U =>?_
  refine plz (lj U ab 100 (k:=.i64) rfl rfl U31 ov rfl rfl rfl rfl fun ax Y ay U ag =>?_)
  refine plz (lE U ag 10 rfl rfl rfl (ag.numsO (i:=100) rfl) U31 ov (by decide) (by simp [su];omega) rfl fun az aA Y aB U al =>?_)
  refine k9 U (.fieldAddr (off:=5) rfl lx rfl (s:=0) (by kernel_rfl) rfl .nil) fun Y U =>?_
  refine plz (st1 U al 9 zo fun aC ah _ =>?_)
  refine znl (hK6 _ _ ?_)
  replace U:=U.oz [3,10,11,12]
  refine wp_region_lit ?_
  refine k9 U (.move rfl<|.inc (i+1)<|.assign rfl .nil) fun Y U =>?_
  refine wpList_nil ?_
  show ∃ n',n'<_∧_
  have hE:crL px i++[1+((i:Int)+px) % 2]=crL px (i+1):=(wK px i).symm
  rw[hE] at ah
  exact⟨cc.toNat - (i+1),by omega,i+1,_,_,_,_,by omega,rfl,U.only [3,10,11,12],ah.only [8,9,10]⟩
 intro aa U;try simp only [QQ,Qax] at aa
 rw[hcc] at aa
 have hi9:(i:Int)=cc:=by omega
 refine wcf U ?_
 refine wp_exit ?_
 refine hK3 _ _ ?_
 replace U:=U.oz [3,10,11,12]
 refine zsr fun K7 hK7 =>?_
 refine k9 U (.loadBR ab (i:=9) rfl rfl lx rfl lY (by simp) (by dsimp only [List.drop,List.take] <;> rfl) .nil) fun Y U =>?_
 refine plz (stw U ab 8 lY fun aD ai _ =>?_)
 refine znl (hK7 _ _ ?_)
 refine rtd (mK (fn:=Tryz.f77) U ai (i:=8) rfl rfl rfl lx rfl lY ?_)
 have aj:=ai.freezeN 10 rfl
 exact⟨bl,sz,pm+1,crL px i,_,_,by rw[hvm],by omega,by omega,by omega,by omega,by omega,by omega,⟨zP px i,by rw[su,hcc];exact hi9⟩,by rw[su];omega,aj.outF (i:=10) rfl,aj.below⟩
theorem na(bl:Int)(z:Nat)(l:List Int)(pl:Option Addr)(cl:Nat)(w0:World)(h0:Rd (fun _=>True) w0 (.slice pl l.length cl) (.ns .u8 l))(hl:l.length≤1000000)(hlb:∀ j,j<l.length→0≤l.getD j 0∧l.getD j 0≤255)(hz:z≤1000) :
   Calls Tryz.prog 107 #[.int .i64 bl,.int .i64 (z:Int),.slice pl l.length cl] w0 fun e w' => ∃ (it:List (Int×List Int)) (p:Option Addr) (c:Nat),e=.returned (.slice p it.length c)∧it.length≤8∧qJ (max bl 1) z it it.length∧ItsB it∧(l≠[]→1≤it.length)∧Rd (New w0) w' (.slice p it.length c) (.l 2 (it.map itD))∧Below w0.heap.size w0 w':=by
 refine qr Tryz.func107 rfl Tryz.ntmps107 fun Y U =>?_
 have m0:=MemOk.start (fun _=>False) w0
 obtain⟨bb,hbb⟩:∃ x:Int,max bl 1=x:=⟨_,rfl⟩
 refine la U (.assign rfl .nil) fun Y U =>?_
 refine la U (.assign rfl .nil) fun Y U =>?_
 refine wsk fun K0 hK0 =>?_
 refine la U (.assign rfl .nil) fun Y U =>?_
 refine wp_block ?_
 refine wp_loop_ghost (fun g a w => ∃ (k:Nat) (it:List (Int×List Int)) (p:Option Addr) (c:Nat),k≤l.length∧g=l.length - k∧it.length≤8∧qJ bb z it it.length∧ItsB it∧(0<k→1≤it.length)∧Has 61 [(0,.int .i64 bl),(1,.int .i64 (z:Int)),(2,.slice pl l.length cl),(7,.slice p (it.map itD).length c),(8,.int .i64 k)] a∧MemOk (cn w0) w0 [(9,.seg (.slice p (it.map itD).length c) 78 2 (it.map itD))] w) (l.length) ?_ ?_
 · have mz:=(m0.nilR 9 78 2).rowS 9 rfl
   exact⟨0,[],_,_,Nat.zero_le _,rfl,by simp,(fun j hj=>by simp at hj),(fun _ h=>by cases h),(fun h=>by omega),U.only [0,1,2,7,8],mz.only [9]⟩
 clear U m0
 rintro g Y w4 ⟨k,it,p,c,hkl,hg,hit8,hpre,hitb,hne,U,m4⟩
 refine wsk fun K1 hK1 =>?_
 refine zsr fun K2 hK2 =>?_
 refine k9 U (.move rfl<|.move rfl<|.len rfl U22<|.lss rfl rfl<|.move rfl .nil) fun Y U =>?_
 refine bc U 16 ?_ ?_
 ·
  intro ad U;try simp only [QQ,Qax] at ad
  have hk:k<l.length:=by omega
  have hx:=hlb k hk
  obtain⟨b9,hb9e,hb9⟩:∃ x:Int,(l.getD k 0).tmod bb=x∧(0≤x∧x<bb):=⟨_,rfl,by rw[Int.tmod_eq_emod_of_nonneg (by omega)];exact Int.emod_nonneg _ (by omega),by rw[Int.tmod_eq_emod_of_nonneg (by omega)];exact Int.emod_lt_of_pos _ (by omega)⟩
  refine gz hK2 U (.moveZ rfl<|.lenZ rfl U28<|.lssZ rfl rfl<|.pickT rfl rfl<|.nil) fun Y U =>?_
  refine bc U 20 ?_ ?_
  ·
   intro aa U;try simp only [QQ,Qax] at aa
   rw[List.length_map] at aa
   refine wct U ?_
   refine zss (hK1 _ _ ?_)
   refine wsk fun K3 hK3 =>?_
   refine wp_block ?_
   replace U:=U.oz [0,1,2,7,8]
   refine zsr fun K4 hK4 =>?_
   refine k9 U (.move rfl<|.move rfl .nil) fun Y U =>?_
   obtain⟨ak,al,ao,aB,ah⟩:=h0.extN (k) hk
   revert U
   cases ao
   intro U
   refine gz hK4 U (.c rfl (fun _ h_=>li h_ rfl rfl U22 mW (k) rfl hk)<|.loadAt1 (ah m4 rfl) (q:=0) rfl rfl rfl U5 rfl<|.conv rfl U5 U3 (r:=l.getD k 0) (IntWalk.i64_in _ (by omega))<|.move rfl<|.c rfl (fun _ h_=>oK h_ rfl rfl (r:=bb) hbb)<|.rem rfl rfl (by omega) (r:=b9) hb9e<|.assign rfl<|.nil) fun Y U =>?_
   replace U:=U.oz [0,1,2,7,8,9]
   refine la U (.assign rfl .nil) fun Y U =>?_
   refine wsk fun K5 hK5 =>?_
   refine la U (.assign rfl .nil) fun Y U =>?_
   refine wp_block ?_
   refine wp_loop_ghost (fun g a w => ∃ (j:Nat) (tb:Bool) (p:Option Addr) (c:Nat),j≤it.length∧g=it.length - j∧(tb=true↔∃ e∈it.take j,e.1=b9)∧Has 61 [(0,.int .i64 bl),(1,.int .i64 (z:Int)),(2,.slice (some ⟨ak,al,none⟩) l.length cl),(7,.slice p (it.map itD).length c),(8,.int .i64 k),(9,.int .i64 b9),(10,.bool tb),(11,.int .i64 j)] a∧MemOk (cn w0) w0 [(9,.seg (.slice p (it.map itD).length c) 78 2 (it.map itD))] w) (it.length) ?_ ?_
   · exact⟨0,false,_,_,Nat.zero_le _,rfl,by simp,U.only [0,1,2,7,8,9,10,11],m4.only [9]⟩
   clear U m4
   rintro g Y aI ⟨j,tb,p,c,hjl,hg2,htb,U,ae⟩
   refine wsk fun K6 hK6 =>?_
   refine la U (.move rfl<|.move rfl<|.len rfl U28<|.lss rfl rfl .nil) fun Y U =>?_
   refine bc U 34 ?_ ?_
   ·
    intro ab U;try simp only [QQ,Qax] at ab
    rw[List.length_map] at ab
    have hj:j<it.length:=by omega
    obtain⟨⟨yb,yd⟩,hit⟩:∃ e,it[j]? = some e:=⟨_,List.getElem?_eq_getElem hj⟩
    refine wct U ?_
    refine zss (hK6 _ _ ?_)
    refine wsk fun K7 hK7 =>?_
    refine wp_block ?_
    refine wp_region_lit ?_
    refine k9 U (.move rfl<|.move rfl .nil) fun Y U =>?_
    refine bc U 38 ?_ ?_
    ·
     intro ac U;try simp only [QQ,Qax] at ac
     refine gz hK7 U (.sk<|.sk<|.sk<|.sk<|.sk<|.sk<|.sk<|.pickT rfl rfl<|.assign rfl<|.nil) fun Y U =>?_
     replace U:=U.oz [0,1,2,7,8,9,10,11,38]
     refine wp_region_lit ?_
     refine k9 U (.move rfl<|.inc (j+1)<|.assign rfl .nil) fun Y U =>?_
     refine wpList_nil ?_
     show ∃ n',n'<_∧_
     exact⟨it.length - (j+1),by omega,j+1,_,_,_,by omega,rfl,qg (tb:=true) (ac ▸ htb) hit,U.only [0,1,2,7,8,9,10,11],ae.only [9]⟩
    intro ac U;try simp only [QQ,Qax] at ac
    refine k9 U (.moveZ rfl<|.moveZ rfl .nil) fun Y U =>?_
    obtain⟨aC,aD,ap,aq,ar,au,ai⟩:=ae.openS (i:=9) rfl (j) (r:=[.v (.int .i64 yb),.ns .u8 yd]) (lm hit)
    revert U
    cases aq;clear ar au ai ap
    intro U
    refine gz hK7 U (.g rfl rfl rfl rfl (fun _ h_=>li h_ rfl rfl U28 lX (j) rfl (by rw[List.length_map];exact hj))<|.fieldAddrQZ 0 rfl U78 rfl (s:=0) (by kernel_rfl) rfl<|.loadSVZ ae (i:=9) rfl (j) (r:=[.v (.int .i64 yb),.ns .u8 yd]) (lm hit) (q:=0) rfl rfl rfl U3 rfl<|.moveZ rfl<|.eqlZ rfl rfl<|.pickF rfl rfl<|.assign rfl<|.nil) fun Y U =>?_
    replace U:=U.oz [0,1,2,7,8,9,10,11,38]
    refine wp_region_lit ?_
    refine k9 U (.move rfl<|.inc (j+1)<|.assign rfl .nil) fun Y U =>?_
    refine wpList_nil ?_
    show ∃ n',n'<_∧_
    exact⟨it.length - (j+1),by omega,j+1,_,_,_,by omega,rfl,qg (tb:=false) (ac ▸ htb) hit,U.only [0,1,2,7,8,9,10,11],ae.only [9]⟩
   intro ab U;try simp only [QQ,Qax] at ab
   rw[List.length_map] at ab
   revert U
   obtain rfl:j=it.length:=by omega
   intro U
   rw[List.take_length] at htb
   refine wcf U ?_
   refine wp_exit ?_
   refine hK5 _ _ ?_
   refine la U (.move rfl<|.not rfl .nil) fun Y U =>?_
   refine bc U 48 ?_ ?_
   ·
    intro ag U;try simp only [QQ,Qax] at ag
    have hno:¬ ∃ e∈it,e.1=b9:=fun h=>by have h9:=htb.2 h;simp_all
    refine wct U ?_
    refine wp_region_lit ?_
    refine k9 U (.move rfl<|.move rfl<|.move rfl<|.move rfl<|.move rfl .nil) fun Y U =>?_
    obtain⟨aE,aF,av,aG,aj⟩:=h0.extN (k) hk
    revert U
    cases av
    intro U
    refine k9 U (.c rfl (fun _ h_=>li h_ rfl rfl U22 mW (k) rfl hk)<|.loadAt1 (aj ae rfl) (q:=0) rfl rfl rfl U5 rfl .nil) fun Y U =>?_
    refine plz (ecl U Tryz.func119 rfl (wL z (l.getD k 0) _ (by omega) (by omega)) ?_)
    rintro e aJ ⟨d9,aK,aL,rfl,hd9l,hd9b,aw,ax⟩
    have ay:=ae.callF 200 rfl ax aw
    refine⟨_,rfl,?_⟩;intro Y U
    refine k9 U (.build rfl pz yT rfl (by dsimp only [l9,List.set] <;> rfl) .nil) fun Y U =>?_
    refine plz (lq U ay 201 (mm:=2) rfl (.cons rfl rfl (.cons (.v _) (.cons (ay.rd (i:=200) rfl) .nil)) .nil) U28 ow rfl rfl rfl rfl rfl fun aM Y aN U aH =>?_)
    have az:=aH.freezeR 201 rfl
    refine plz (xZ U az 9 rfl rfl rfl (az.rd (i:=201) rfl).cells U28 ow rfl rfl (by decide) (by simp;omega) rfl fun aO aP Y aQ U aA =>?_)
    refine gz hK3 U (.assign rfl .nil) fun Y U =>?_
    replace U:=U.oz [0,1,2,7,8,9,10,11,48]
    refine wp_region_lit ?_
    refine k9 U (.move rfl<|.inc (k+1)<|.assign rfl .nil) fun Y U =>?_
    refine wpList_nil ?_
    show ∃ n',n'<_∧_
    have hE:it.map itD++[[D.v (.int .i64 b9),.ns .u8 d9]]=(it++[(b9,d9)]).map itD:=by rw[List.map_append];rfl
    rw[hE] at aA U
    skip
    exact⟨l.length - (k+1),by omega,k+1,it++[(b9,d9)],_,_,by omega,rfl,by simp;omega,by rw[List.length_append];exact u7 hpre hb9 (by omega) hno,u6 hitb (by omega) hd9b,fun _=>by simp,U.only [0,1,2,7,8],aA.only [9]⟩
   intro ag U;try simp only [QQ,Qax] at ag
   have hsome:1≤it.length:=by
     obtain⟨e9,h9,-⟩:=htb.1 (by simp_all)
     exact List.length_pos_of_mem h9
   refine wcf U ?_
   refine zss (hK3 _ _ ?_)
   refine wp_region_lit ?_
   refine k9 U (.move rfl<|.inc (k+1)<|.assign rfl .nil) fun Y U =>?_
   refine wpList_nil ?_
   show ∃ n',n'<_∧_
   exact⟨l.length - (k+1),by omega,k+1,it,_,_,by omega,rfl,by omega,hpre,hitb,fun _=>hsome,U.only [0,1,2,7,8],ae.only [9]⟩
  intro aa U;try simp only [QQ,Qax] at aa
  rw[List.length_map] at aa
  refine wcf U ?_
  refine wp_exit ?_
  refine hK0 _ _ ?_
  replace U:=U.oz [0,1,2,7,8]
  refine la U (.move rfl<|.assign rfl .nil) fun Y U =>?_
  refine rt1 U ?_
  have mf:=m4.freezeS 9 rfl (by simp [cx])
  exact⟨it,_,_,by rw[List.length_map],hit8,(by rw[hbb];exact hpre),hitb,(fun h=>by first|omega|(have h9:=List.length_pos_iff.2 h;exact hne (by omega))),by simpa using mf.outF (i:=9) rfl,m4.below⟩
 intro ad U;try simp only [QQ,Qax] at ad
 revert U
 obtain rfl:k=l.length:=by omega
 intro U
 refine gz hK2 U (.sk<|.sk<|.sk<|.pickF rfl rfl<|.nil) fun Y U =>?_
 refine wcf U ?_
 refine wp_exit ?_
 refine hK0 _ _ ?_
 replace U:=U.oz [0,1,2,7,8]
 refine la U (.move rfl<|.assign rfl .nil) fun Y U =>?_
 refine rt1 U ?_
 have mf:=m4.freezeS 9 rfl (by simp [cx])
 exact⟨it,_,_,by rw[List.length_map],hit8,(by rw[hbb];exact hpre),hitb,(fun h=>by first|omega|(have h9:=List.length_pos_iff.2 h;exact hne (by omega))),by simpa using mf.outF (i:=9) rfl,m4.below⟩
end
section
open Classical in
noncomputable def wrR(bl sz:Int)(ws:List (Int×List (Int×List Int)))(it:List (Int×List Int)):List (Int×List (Int×List Int))×Int:=if mb bl sz it then (ws++[((ws.length:Int)+1,it)],0) else (ws,23)
abbrev zQ:=Int×Bool×Int×List (Int×List (Int×List Int))×Int
noncomputable def yU(bl sz ne fl:Int)(hi:Bool)(ws:List (Int×List (Int×List Int)))(it:List (Int×List Int)):zQ:=if hi=true then (ne,hi,fl,ws,28) else (ne,hi,fl,(wrR bl sz ws it).1,(wrR bl sz ws it).2)
def lV(hi:Bool)(fl at0 nd:Int):Int:=if hi=true then 28 else if at0<fl then 30 else if nd<at0 then 31 else 0
def oY(ne fl:Int)(hi:Bool)(pins:List Int)(ws:List (Int×List (Int×List Int)))(at0:Int):zQ:=if lV hi fl at0 (s8 ws.length pins)=0 then (ne,hi,at0,ws,0) else (ne,hi,fl,ws,lV hi fl at0 (s8 ws.length pins))
noncomputable def takeR(bl sz to ne fl:Int)(hi:Bool)(ws:List (Int×List (Int×List Int)))(ix:Int)(it:List (Int×List Int)):zQ:=
 if hi=false then (ne,hi,fl,ws,33) else if 0≤ix∧ix≤ne - 1 then (ne,hi,fl,ws,0) else if ix≠ne∨ne=to then (ne,hi,fl,ws,33)
 else if (wrR bl sz ws it).2=0 then (ne+1,hi,fl,(wrR bl sz ws it).1,0) else (ne,hi,fl,(wrR bl sz ws it).1,(wrR bl sz ws it).2)
def nv(to ne fl:Int)(hi:Bool)(ws:List (Int×List (Int×List Int))):zQ:=if hi=false∨ne≠to then (ne,hi,fl,ws,33) else (ne,false,(ws.length:Int),ws,0)
noncomputable def doR(bl sz to ne fl:Int)(hi:Bool)(pins:List Int)(ws:List (Int×List (Int×List Int)))(kd at0 ix:Int)(it:List (Int×List Int)):zQ:=
 if kd=2 then yU bl sz ne fl hi ws it else if kd=3 then oY ne fl hi pins ws at0 else if kd=6 then takeR bl sz to ne fl hi ws ix it
 else if kd=7 then nv to ne fl hi ws else if kd=8 then (ne,hi,fl,ws,0) else (ne,hi,fl,ws,23)
end
section
theorem RdL.cons_inv{S:Nat→Prop}{w:World}{vs:List Value}{d:D}{ds:List D}(h:RdL S w vs (d :: ds)):∃ v r,vs=v :: r∧Rd S w v d∧RdL S w r ds:=by
 cases h with
 | cons h t=>exact⟨_,_,rfl,h,t⟩
theorem RdL.nil_inv{S:Nat→Prop}{w:World}{vs:List Value}(h:RdL S w vs []):vs=[]:=by
 cases h;rfl
end
end Go.Proofs.YteglmahnkfgelaaGreat.K
section
namespace Go.Proofs.YteglmahnkfgelaaGreat.K
open Go.ChangeShapes Go.WideShapes Go.ChangeAt Go.RowKit Go.Sort
set_option linter.unusedVariables false
set_option linter.unusedSimpArgs false
variable {P:Program} {X:Cx} {M:Mm} {w w0:World}
def nD(z:Int):List D:=[.v (.int .i64 z)]
theorem MemOk.dropN(m:MemOk X w0 M w){i:Nat}{p:Option Addr}{l c:Nat}{k:IntKind}{zs:List Int}(hm:lk M i=some (.dat (.slice p l c) (.ns k zs)))(j:Nat)(hj:j≤zs.length)(i2:Nat)(hi2:lk M i2=none):MemOk X w0 ((i2,.dat (.slice (if c=j then p else p.map (·.add (j*1))) (l - j) (c - j)) (.ns k (zs.drop j))) :: M) w:=
 m.dat i2 hi2 (.ns ((m.rd hm).ns_out.drop j hj))
end Go.Proofs.YteglmahnkfgelaaGreat.K
end
section
namespace Go.Proofs.YteglmahnkfgelaaGreat.K
open Go.ChangeShapes Go.WideShapes Go.ChangeAt Go.RowKit Go.Sort
set_option linter.unusedVariables false
set_option linter.unusedSimpArgs false
def qK(l:List Int):List Int:=l.mergeSort fun x y=>decide (x≤y)
def tP(hi:Bool)(fl at0 nd:Int)(pins:List Int):List Int×Int:=if lV hi fl at0 nd=0 then (qK (pins++[at0]),0) else (pins,lV hi fl at0 nd)
def oG(hi:Bool)(at0:Int)(pins:List Int):List Int×Int:=if hi=true∨Lib.idxOf pins at0<0 then (pins,28) else (pins.take (Lib.idxOf pins at0).toNat++pins.drop ((Lib.idxOf pins at0).toNat+1),0)
set_option maxRecDepth 100000
set_option maxHeartbeats 4000000
end Go.Proofs.YteglmahnkfgelaaGreat.K
end
