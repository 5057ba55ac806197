/- General laws of walks. -/
import Derived.Test.YteglmahnkfgelaaGreatG8
namespace Go.Proofs.YteglmahnkfgelaaGreat.K
open Go.ChangeShapes Go.WideShapes Go.ChangeAt Go.RowKit
set_option linter.unusedVariables false
set_option linter.unusedSimpArgs false
set_option maxRecDepth 100000
set_option maxHeartbeats 4000000
set_option autoImplicit true
set_option relaxedAutoImplicit true
section
theorem zR:lR Tryz.prog 78 [.int .i64 0,.slice none 0 0]=true:=by kernel_rfl
theorem zS:lR Tryz.prog 30 [.int .i64 0,.slice none 0 0]=true:=by kernel_rfl
theorem tQ{l:List (Int×List Int)}{k:Nat}{xb:Int}(h:∀ i,i<k→(l.getD i i0).1≠xb)(hk:k≤l.length):¬ ∃ e∈l.take k,e.1=xb:=fun⟨e,h1,h2⟩=>by
 obtain⟨j,hj,rfl⟩:=List.getElem_of_mem h1
 have hj2:j<k:=by rw[List.length_take] at hj;omega
 have h3:=h j hj2
 rw[List.getD,List.getElem?_eq_getElem (by omega)] at h3
 rw[List.getElem_take] at h2
 exact h3 h2
theorem mY(bl sz:Int)(l:List (Int×List Int))(p:Option Addr)(nn c:Nat)(w0:World)(h0:Rd (fun _=>True) w0 (.slice p nn c) (.l 2 (l.map itD)))(hl:l.length≤1000000) :
   Calls Tryz.prog 49 #[.int .i64 bl,.int .i64 sz,.slice p nn c] w0 fun e w' => ∃ b:Bool,e=.returned (.bool b)∧(b=true↔mb bl sz l)∧Below w0.heap.size w0 w':=by
 obtain rfl:nn=l.length:=by obtain⟨pq,cq,hv,_⟩:=h0.l_shape;injection hv with _ e2 _;rw[List.length_map] at e2;exact e2
 refine qr Tryz.func49 rfl Tryz.ntmps49 fun Y U =>?_
 have m0:=MemOk.start (fun _=>False) w0
 refine la U (.assign rfl .nil) fun Y U =>?_
 refine wsk fun K0 hK0 =>?_
 refine zsr fun K1 hK1 =>?_
 refine k9 U (.move rfl<|.len rfl U28<|.lss rfl rfl<|.move rfl .nil) fun Y U =>?_
 refine bc U 12 ?_ ?_
 ·
  intro al U;try simp only [QQ,Qax] at al
  refine gz hK1 U (.sk<|.sk<|.sk<|.pickT rfl rfl<|.nil) fun Y U =>?_
  refine wct U ?_
  replace U:=U.oz [0,1,2,6,12,16]
  refine la U (.assign rfl .nil) fun Y U =>?_
  refine rt1 U ?_
  exact⟨false,rfl,iff_of_false (by simp) (fun h=>by have h8:=h.1;have h9:=h.2.1;omega),m0.below⟩
 intro al U;try simp only [QQ,Qax] at al
 refine gz hK1 U (.moveZ rfl<|.lenZ rfl U28<|.gtrZ rfl rfl<|.pickF rfl rfl<|.nil) fun Y U =>?_
 refine bc U 16 ?_ ?_
 ·
  intro ao U;try simp only [QQ,Qax] at ao
  refine wct U ?_
  replace U:=U.oz [0,1,2,6,12,16]
  refine la U (.assign rfl .nil) fun Y U =>?_
  refine rt1 U ?_
  exact⟨false,rfl,iff_of_false (by simp) (fun h=>by have h8:=h.1;have h9:=h.2.1;omega),m0.below⟩
 intro ao U;try simp only [QQ,Qax] at ao
 refine wcf U ?_
 refine zss (hK0 _ _ ?_)
 refine wsk fun K2 hK2 =>?_
 replace U:=U.oz [0,1,2,6,12,16]
 refine la U (.assign rfl .nil) fun Y U =>?_
 refine wp_block ?_
 refine wp_loop_ghost (fun g a w => ∃ k:Nat,k≤l.length∧g=l.length - k∧qJ bl sz l k∧Has 64 [(0,.int .i64 bl),(1,.int .i64 sz),(2,.slice p l.length c),(7,.int .i64 k)] a∧MemOk (cn w0) w0 [] w) (l.length) ?_ ?_
 · exact⟨0,Nat.zero_le _,rfl,(fun j hj=>by omega),U.only [0,1,2,7],m0.only []⟩
 clear U m0
 rintro g Y bt ⟨k,hkl,hg,hall,U,ai⟩
 refine wsk fun K3 hK3 =>?_
 refine la U (.move rfl<|.move rfl<|.len rfl U28<|.lss rfl rfl .nil) fun Y U =>?_
 refine bc U 20 ?_ ?_
 ·
  intro ap U;try simp only [QQ,Qax] at ap
  have hk:k<l.length:=by omega
  obtain⟨⟨xb,xd⟩,hes⟩:∃ e,l[k]? = some e:=⟨_,List.getElem?_eq_getElem hk⟩
  refine wct U ?_
  refine zss (hK3 _ _ ?_)
  refine wsk fun K4 hK4 =>?_
  refine wp_block ?_
  refine wsk fun K5 hK5 =>?_
  refine zsr fun K6 hK6 =>?_
  refine k9 U (.move rfl<|.move rfl .nil) fun Y U =>?_
  obtain⟨aN,aO,a8,aP,a9,aQ,aD⟩:=h0.extA (k) (r:=[.v (.int .i64 xb),.ns .u8 xd]) (lm hes)
  revert U
  cases aP
  rcases aQ with _|⟨ad,_|⟨aq,_|_⟩⟩
  obtain rfl:=ad.v_out
  clear ad
  obtain⟨bu,bv,aR,ba⟩:=aq.ns_shape;subst aR
  intro U
  refine k9 U (.c rfl (fun _ h_=>li h_ rfl rfl U28 lX (k) rfl hk)<|.fieldAddrQ 0 rfl U78 rfl (s:=0) (by kernel_rfl) rfl<|.loadAt1 (aD ai rfl) (q:=0) rfl rfl rfl U3 rfl<|.lss rfl rfl<|.move rfl .nil) fun Y U =>?_
  refine bc U 29 ?_ ?_
  ·
   intro ar U;try simp only [QQ,Qax] at ar
   refine gz hK6 U (.sk<|.sk<|.sk<|.sk<|.sk<|.sk<|.sk<|.pickT rfl rfl<|.move rfl<|.sk<|.sk<|.sk<|.sk<|.sk<|.sk<|.sk<|.sk<|.pickT rfl rfl<|.nil) fun Y U =>?_
   refine wct U ?_
   replace U:=U.oz [0,1,2,7,20,29,38,47]
   refine la U (.assign rfl .nil) fun Y U =>?_
   refine rt1 U ?_
   exact⟨false,rfl,iff_of_false (by simp) (fun h=>by have h9:=h.2.2 k hk;rw[sI hes] at h9;dsimp only at h9;omega),ai.below⟩
  intro ar U;try simp only [QQ,Qax] at ar
  refine k9 U (.moveZ rfl<|.moveZ rfl .nil) fun Y U =>?_
  obtain⟨bb,bd,be,aS,bf,aT,aE⟩:=h0.extA (k) (r:=[.v (.int .i64 xb),.ns .u8 xd]) (lm hes)
  revert U
  cases aS
  rcases aT with _|⟨ae,_|⟨au,_|_⟩⟩
  obtain rfl:=ae.v_out
  clear ae
  obtain⟨bw,bx,aU,bg⟩:=au.ns_shape;subst aU
  intro U
  refine k9 U (.g rfl rfl rfl rfl (fun _ h_=>li h_ rfl rfl U28 lX (k) rfl hk)<|.fieldAddrQZ 0 rfl U78 rfl (s:=0) (by kernel_rfl) rfl<|.loadAt1Z (aE ai rfl) (q:=0) rfl rfl rfl U3 rfl<|.moveZ rfl<|.geqZ rfl rfl<|.pickF rfl rfl<|.move rfl .nil) fun Y U =>?_
  refine bc U 38 ?_ ?_
  ·
   intro av U;try simp only [QQ,Qax] at av
   refine gz hK6 U (.sk<|.sk<|.sk<|.sk<|.sk<|.sk<|.sk<|.sk<|.pickT rfl rfl<|.nil) fun Y U =>?_
   refine wct U ?_
   replace U:=U.oz [0,1,2,7,20,29,38,47]
   refine la U (.assign rfl .nil) fun Y U =>?_
   refine rt1 U ?_
   exact⟨false,rfl,iff_of_false (by simp) (fun h=>by have h9:=h.2.2 k hk;rw[sI hes] at h9;dsimp only at h9;omega),ai.below⟩
  intro av U;try simp only [QQ,Qax] at av
  refine k9 U (.moveZ rfl<|.moveZ rfl .nil) fun Y U =>?_
  obtain⟨bh,bi,bj,aV,bk,aW,aF⟩:=h0.extA (k) (r:=[.v (.int .i64 xb),.ns .u8 xd]) (lm hes)
  revert U
  cases aV
  rcases aW with _|⟨ag,_|⟨aw,_|_⟩⟩
  obtain rfl:=ag.v_out
  clear ag
  obtain⟨bz,bA,aX,bm⟩:=aw.ns_shape;subst aX
  intro U
  refine gz hK6 U (.g rfl rfl rfl rfl (fun _ h_=>li h_ rfl rfl U28 lX (k) rfl hk)<|.fieldAddrQZ 1 rfl U78 rfl (s:=0) (by kernel_rfl) rfl<|.loadAt1Z (aF ai rfl) (q:=1) rfl rfl rfl U22 rfl<|.lenZ rfl U22<|.moveZ rfl<|.neqZ rfl rfl<|.pickF rfl rfl<|.nil) fun Y U =>?_
  refine bc U 47 ?_ ?_
  ·
   intro ax U;try simp only [QQ,Qax] at ax
   refine wct U ?_
   replace U:=U.oz [0,1,2,7,20,29,38,47]
   refine la U (.assign rfl .nil) fun Y U =>?_
   refine rt1 U ?_
   exact⟨false,rfl,iff_of_false (by simp) (fun h=>by have h9:=h.2.2 k hk;rw[sI hes] at h9;dsimp only at h9;omega),ai.below⟩
  intro ax U;try simp only [QQ,Qax] at ax
  refine wcf U ?_
  refine zss (hK5 _ _ ?_)
  replace U:=U.oz [0,1,2,7,20,29,38,47]
  refine la U (.assign rfl .nil) fun Y U =>?_
  refine wp_block ?_
  refine wp_loop_ghost (fun g a w => ∃ j:Nat,j≤k∧g=k - j∧(∀ i,i<j→(l.getD i i0).1≠xb)∧Has 64 [(0,.int .i64 bl),(1,.int .i64 sz),(2,.slice (some ⟨aN,aO,none⟩) l.length c),(7,.int .i64 k),(8,.int .i64 j)] a∧MemOk (cn w0) w0 [] w) (k) ?_ ?_
  · exact⟨0,Nat.zero_le _,rfl,(fun i hi=>by omega),U.only [0,1,2,7,8],ai.only []⟩
  clear U ai
  rintro g Y bn ⟨j,hjk,hg2,hall2,U,ay⟩
  refine wsk fun K7 hK7 =>?_
  refine la U (.move rfl<|.move rfl<|.lss rfl rfl .nil) fun Y U =>?_
  refine bc U 50 ?_ ?_
  ·
   intro ah U;try simp only [QQ,Qax] at ah
   have hj:j<k:=by omega
   obtain⟨⟨yb,yd⟩,hej⟩:∃ e,l[j]? = some e:=⟨_,List.getElem?_eq_getElem (by omega)⟩
   refine wct U ?_
   refine zss (hK7 _ _ ?_)
   refine wsk fun K8 hK8 =>?_
   refine wp_block ?_
   refine wsk fun K9 hK9 =>?_
   obtain⟨aY,aZ,a0,aG,a1,aH,az⟩:=h0.extA (j) (r:=[.v (.int .i64 yb),.ns .u8 yd]) (lm hej)
   revert U
   cases aG
   rcases aH with _|⟨ab,_|⟨aj,_|_⟩⟩
   obtain rfl:=ab.v_out
   clear ab
   obtain⟨bo,bp,aI,a2⟩:=aj.ns_shape;subst aI
   intro U
   obtain⟨a3,a4,a5,aJ,a6,aK,aA⟩:=h0.extA (k) (r:=[.v (.int .i64 xb),.ns .u8 xd]) (lm hes)
   revert U
   cases aJ
   rcases aK with _|⟨ac,_|⟨ak,_|_⟩⟩
   obtain rfl:=ac.v_out
   clear ac
   obtain⟨bq,br,aL,a7⟩:=ak.ns_shape;subst aL
   intro U
   have aB:MemOk _ _ [] _:=ay.only [];clear ay
   refine region_p 11 (B:=[]) (aB.to trivial) aB (by kernel_rfl) (fun bs aM aC =>?_);clear aB
   refine goR aM [0,1,2,3,4,5,6,7,8,9,10] [4,9] 11 0 2047 U (aC.to trivial) (.move rfl<|.move rfl<|.p (fun _ _ h_=>li h_ rfl rfl U28 lX (j) rfl (by omega))<|.fieldAddrQ 0 rfl U78 rfl (s:=0) (by kernel_rfl) rfl<|.loadAt1 (fun _ h_=>(az h_ rfl)) (q:=0) rfl rfl rfl U3 rfl<|.move rfl<|.move rfl<|.p (fun _ _ h_=>li h_ rfl rfl U28 lX (k) rfl hk)<|.fieldAddrQ 0 rfl U78 rfl (s:=0) (by kernel_rfl) rfl<|.loadAt1 (fun _ h_=>(aA h_ rfl)) (q:=0) rfl rfl rfl U3 rfl<|.eql rfl rfl .nil) fun Y U =>?_
   refine wad ?_
   refine hK9 _ _ ?_
   refine bc U 63 ?_ ?_
   ·
    intro aa U;try simp only [QQ,Qax] at aa
    refine wct U ?_
    replace U:=U.oz [0,1,2,7,8,63]
    refine la U (.assign rfl .nil) fun Y U =>?_
    refine rt1 U ?_
    exact⟨false,rfl,iff_of_false (by simp) (fun h=>by have h9:=(h.2.2 k hk).2.2.2;rw[sI hes] at h9;exact h9 ⟨_,List.mem_of_getElem? (i:=j) (by rw[List.getElem?_take_of_lt hj];exact hej),aa⟩),aC.below⟩
   intro aa U;try simp only [QQ,Qax] at aa
   refine wcf U ?_
   refine zss (hK8 _ _ ?_)
   replace U:=U.oz [0,1,2,7,8,63]
   refine wp_region_lit ?_
   refine k9 U (.move rfl<|.inc (j+1)<|.assign rfl .nil) fun Y U =>?_
   refine wpList_nil ?_
   show ∃ n',n'<_∧_
   exact⟨k - (j+1),by omega,j+1,by omega,rfl,u9 hall2 hej aa,U.only [0,1,2,7,8],aC.only []⟩
  intro ah U;try simp only [QQ,Qax] at ah
  have hjk2:j=k:=by omega
  rw[hjk2] at hall2
  refine wcf U ?_
  refine wp_exit ?_
  refine hK4 _ _ ?_
  refine wp_region_lit ?_
  refine k9 U (.move rfl<|.inc (k+1)<|.assign rfl .nil) fun Y U =>?_
  refine wpList_nil ?_
  show ∃ n',n'<_∧_
  exact⟨l.length - (k+1),by omega,k+1,by omega,rfl,qh hall hes (by omega) (by omega) (tQ hall2 (by omega)),U.only [0,1,2,7],ay.only []⟩
 intro ap U;try simp only [QQ,Qax] at ap
 revert U
 obtain rfl:k=l.length:=by omega
 intro U
 refine wcf U ?_
 refine wp_exit ?_
 refine hK2 _ _ ?_
 refine la U (.assign rfl .nil) fun Y U =>?_
 refine rt1 U ?_
 exact⟨true,rfl,iff_of_true rfl ⟨by omega,by omega,hall⟩,ai.below⟩
theorem me(vo bl sz pe to ne fl:Int)(hi:Bool)(pp pn pw:Option Addr)(np cp nn cn nw cw:Nat)(w0:World) :
   Calls Tryz.prog 37 #[.agg #[.int .i64 vo,.int .i64 bl,.int .i64 sz,.int .i64 pe,.slice pp np cp,.int .i64 to,.int .i64 ne,.bool hi,.int .i64 fl,.slice pn nn cn,.slice pw nw cw]] w0 fun e w'=>e=.returned (.int .i64 (nw:Int))∧Below w0.heap.size w0 w':=by
 refine mp Tryz.func37 rfl Tryz.ntmps37 fun Y U =>?_
 have m0:=MemOk.start (fun _=>False) w0
 refine zsr fun K0 hK0 =>?_
 refine plz (ly U m0 4 (cs:=[_,_,_,_,_,_,_,_,_,_,_]) rfl rfl rfl fun g1 Y w2 U m2 _ _ =>?_)
 refine gz hK0 U (.assign rfl .nil) fun Y U =>?_
 refine la U (.fa 10 rfl U34<|.lb m2 4 U23 rfl rfl rfl<|.len rfl U23<|.assign rfl .nil) fun Y U =>?_
 refine rt1 U ?_
 exact⟨rfl,m2.below⟩
theorem wM(vo bl sz pe to ne fl:Int)(hi:Bool)(pins:List Int)(pp pn pw:Option Addr)(np cp cn9 nw cw:Nat)(w0:World)(h1:Rd (fun _=>True) w0 (.slice pn pins.length cn9) (.ns .i64 pins))(hp:pins.length≤1000000) :
   Calls Tryz.prog 125 #[.agg #[.int .i64 vo,.int .i64 bl,.int .i64 sz,.int .i64 pe,.slice pp np cp,.int .i64 to,.int .i64 ne,.bool hi,.int .i64 fl,.slice pn pins.length cn9,.slice pw nw cw]] w0 fun e w'=>e=.returned (.int .i64 (s8 nw pins))∧Below w0.heap.size w0 w':=by
 refine mp Tryz.func125 rfl Tryz.ntmps125 fun Y U =>?_
 have m0:=MemOk.start (fun _=>False) w0
 refine zsr fun K0 hK0 =>?_
 refine plz (ly U m0 20 (cs:=[_,_,_,_,_,_,_,_,_,_,_]) rfl rfl rfl fun g1 Y w2 U m2 _ _ =>?_)
 refine gz hK0 U (.assign rfl .nil) fun Y U =>?_
 refine zsr fun K1 hK1 =>?_
 refine k9 U (.loadBR m2 (i:=20) rfl rfl U34 rfl ld (by simp) (by dsimp only [List.drop,List.take] <;> rfl) .nil) fun Y U =>?_
 refine plz (ecb U Tryz.func37 rfl m2 (me _ _ _ _ _ _ _ _ _ _ _ _ _ _ _ _ _ _) fun Y w6 U m7 =>?_)
 refine gz hK1 U (.assign rfl .nil) fun Y U =>?_
 refine wsk fun K2 hK2 =>?_
 refine la U (.assign rfl .nil) fun Y U =>?_
 refine wp_block ?_
 refine wp_loop_ghost (fun g a w => ∃ (k B:Nat),k≤pins.length∧g=pins.length - k∧Has 22 [(1,.pointer (some ⟨B,0,none⟩)),(3,.int .i64 (s8 nw (pins.take k))),(4,.int .i64 k)] a∧MemOk (cn w0) w0 [(9,.box B 34 [.int .i64 vo,.int .i64 bl,.int .i64 sz,.int .i64 pe,.slice pp np cp,.int .i64 to,.int .i64 ne,.bool hi,.int .i64 fl,.slice pn pins.length cn9,.slice pw nw cw])] w) (pins.length) ?_ ?_
 · exact⟨0,_,Nat.zero_le _,rfl,U.only [1,3,4],m7.ren [(9,20)] (by decide)⟩
 clear U m7
 rintro g Y ai ⟨k,B,hkl,hg,U,ab⟩
 refine wsk fun K3 hK3 =>?_
 refine la U (.move rfl<|.fa 9 rfl U34<|.lb ab 9 U32 rfl rfl rfl<|.len rfl U32<|.lss rfl rfl .nil) fun Y U =>?_
 refine bc U 11 ?_ ?_
 ·
  intro aa U;try simp only [QQ,Qax] at aa
  have hk:k<pins.length:=by omega
  refine wct U ?_
  refine zss (hK3 _ _ ?_)
  refine wsk fun K4 hK4 =>?_
  refine wp_block ?_
  refine wp_region_lit ?_
  refine k9 U (.move rfl<|.fa 9 rfl U34<|.lb ab 9 U32 rfl rfl rfl<|.move rfl .nil) fun Y U =>?_
  obtain⟨ae,ag,ad,ah,ac⟩:=h1.extN (k) hk
  revert U
  cases ad
  intro U
  refine gz hK4 U (.c rfl (fun _ h_=>li h_ rfl rfl U32 l3 (k) rfl hk)<|.loadAt1 (ac ab rfl) (q:=0) rfl rfl rfl U2 rfl<|.c rfl (fun _ h_=>qN h_ rfl rfl rfl)<|.assign rfl<|.nil) fun Y U =>?_
  replace U:=U.oz [1,3,4]
  refine wp_region_lit ?_
  refine k9 U (.move rfl<|.inc (k+1)<|.assign rfl .nil) fun Y U =>?_
  refine wpList_nil ?_
  show ∃ n',n'<_∧_
  rw[wN hk] at U
  exact⟨pins.length - (k+1),by omega,k+1,_,by omega,rfl,U.only [1,3,4],ab.only [9]⟩
 intro aa U;try simp only [QQ,Qax] at aa
 revert U
 obtain rfl:k=pins.length:=by omega
 intro U
 refine wcf U ?_
 refine wp_exit ?_
 refine hK2 _ _ ?_
 refine la U (.move rfl<|.assign rfl .nil) fun Y U =>?_
 refine rt1 U ?_
 exact⟨by rw[List.take_length],ab.below⟩
theorem wO(es:List (Int×List Int))(p0:Option Addr)(c0 nn:Nat)(w0:World)(h0:Rd (fun _=>True) w0 (.slice p0 nn c0) (.l 2 (es.map itD)))(hl:es.length≤1000000)(hok:rx es) :
   Calls Tryz.prog 126 #[.slice p0 nn c0] w0 fun e w' => ∃ p c,e=.returned (.slice p (es.map itD).length c)∧Rd (New w0) w' (.slice p (es.map itD).length c) (.l 2 (es.map itD))∧Below w0.heap.size w0 w':=by
 obtain rfl:nn=es.length:=by obtain⟨pq,cq,hv,_⟩:=h0.l_shape;injection hv with _ e2 _;rw[List.length_map] at e2;exact e2
 refine mp Tryz.func126 rfl Tryz.ntmps126 fun Y U =>?_
 have m0:=MemOk.start (fun _=>False) w0
 refine la U (.assign rfl .nil) fun Y U =>?_
 refine la U (.assign rfl .nil) fun Y U =>?_
 refine wsk fun K0 hK0 =>?_
 refine la U (.assign rfl .nil) fun Y U =>?_
 refine wp_block ?_
 refine wp_loop_ghost (fun g a w => ∃ (k:Nat) (p:Option Addr) (c:Nat),k≤es.length∧g=es.length - k∧Has 27 [(0,.slice p0 es.length c0),(3,.slice p ((es.take k).map itD).length c),(4,.int .i64 k)] a∧MemOk (cn w0) w0 [(9,.row (.slice p ((es.take k).map itD).length c) 78 2 ((es.take k).map itD))] w) (es.length) ?_ ?_
 · have mz:=m0.nilR 9 78 2
   exact⟨0,_,_,Nat.zero_le _,rfl,U.only [0,3,4],mz.only [9]⟩
 clear U m0
 rintro g Y w4 ⟨k,p,c,hkl,hg,U,m4⟩
 refine wsk fun K1 hK1 =>?_
 refine la U (.move rfl<|.move rfl<|.len rfl U28<|.lss rfl rfl .nil) fun Y U =>?_
 refine bc U 8 ?_ ?_
 ·
  intro hb9 U;try simp only [QQ,Qax] at hb9
  have hk:k<es.length:=by omega
  obtain⟨⟨xb,xd⟩,hes⟩:∃ e,es[k]? = some e:=⟨_,List.getElem?_eq_getElem hk⟩
  have hed:=hok _ (List.mem_of_getElem? hes)
  dsimp only at hed
  refine wct U ?_
  refine zss (hK1 _ _ ?_)
  refine wsk fun K2 hK2 =>?_
  refine wp_block ?_
  obtain⟨aA,aB,aC,ai,aD,aj,ag⟩:=h0.extA (k) (r:=[.v (.int .i64 xb),.ns .u8 xd]) (lm hes)
  revert U
  cases ai
  rcases aj with _|⟨aa,_|⟨ad,_|_⟩⟩
  obtain rfl:=aa.v_out
  clear aa
  obtain⟨aK,aL,ak,aE⟩:=ad.ns_shape;subst ak
  intro U
  obtain⟨aF,aG,aH,al,aI,ao,ah⟩:=h0.extA (k) (r:=[.v (.int .i64 xb),.ns .u8 xd]) (lm hes)
  revert U
  cases al
  rcases ao with _|⟨ab,_|⟨ac,_|_⟩⟩
  obtain rfl:=ab.v_out
  clear ab
  obtain⟨aM,aN,ap,aJ⟩:=ac.ns_shape;subst ap
  intro U
  have aq:=m4.oz [9]
  refine region_p 14 (B:=[(9,_)]) (aq.to i1l) aq (by kernel_rfl) (fun aO ae ar =>?_);clear aq
  refine goR ae [0,1,2,3,4,5,6,7,8,9,10] [5,10] 11 0 2047 U (ar.to i1l) (.move rfl<|.move rfl<|.move rfl<|.p (fun _ _ h_=>li h_ rfl rfl U28 lX (k) rfl hk)<|.fieldAddrQ 0 rfl U78 rfl (s:=0) (by kernel_rfl) rfl<|.loadAt1 (fun _ h_=>(ag h_ rfl)) (q:=0) rfl rfl rfl U3 rfl<|.move rfl<|.move rfl<|.p (fun _ _ h_=>li h_ rfl rfl U28 lX (k) rfl hk)<|.fieldAddrQ 1 rfl U78 rfl (s:=0) (by kernel_rfl) rfl<|.loadAt1 (fun _ h_=>(ah h_ rfl)) (q:=1) rfl rfl rfl U22 rfl .nil) fun Y U =>?_
  refine so 11 ?_
  refine nC U ar 102 rfl rfl (ac.now' ar rfl).ns_out.nums U22 lJ (by decide) (by omega) rfl fun aP aQ Y aR U au =>?_
  refine⟨au.to i1l,?_⟩
  refine goA ae [12] 1 4095 8191 U (au.to i1l) (.build rfl pz zR rfl (by dsimp only [l9,List.set] <;> rfl) .nil) fun Y U =>?_
  have av:=au.freezeN 102 rfl
  refine so 13 ?_
  refine lq U av 103 (mm:=2) rfl (.cons rfl rfl (.cons (.v _) (.cons (av.rd (i:=102) rfl) .nil)) .nil) U28 ow rfl rfl rfl rfl rfl fun aS Y aT U aw =>?_
  refine⟨aw.to i1l,?_⟩
  have ax:=aw.freezeR 103 rfl
  refine se 14 ?_
  refine lC U ax 9 rfl rfl rfl (ax.rd (i:=103) rfl) U28 ow rfl rfl (by decide) (by simp;omega) rfl fun aU aV Y aW U ay =>?_
  refine goB ae [15] 1 32767 65535 U (.assign rfl .nil) fun Y U =>?_
  refine wad ?_
  refine hK2 _ _ ?_
  replace U:=U.oz [0,3,4]
  refine wp_region_lit ?_
  refine k9 U (.move rfl<|.inc (k+1)<|.assign rfl .nil) fun Y U =>?_
  refine wpList_nil ?_
  show ∃ n',n'<_∧_
  have hE:(es.take k).map itD++[[D.v (.int .i64 xb),.ns .u8 xd]]=(es.take (k+1)).map itD:=by rw[ln hes,List.map_append];rfl
  rw[hE] at ay U
  exact⟨es.length - (k+1),by omega,k+1,_,_,by omega,rfl,U.only [0,3,4],ay.only [9]⟩
 intro hb9 U;try simp only [QQ,Qax] at hb9
 revert U
 obtain rfl:k=es.length:=by omega
 intro U
 refine wcf U ?_
 refine wp_exit ?_
 refine hK0 _ _ ?_
 refine la U (.move rfl<|.assign rfl .nil) fun Y U =>?_
 refine rt1 U ?_
 rw[List.take_length] at *
 have az:=m4.freezeR 9 rfl
 exact⟨_,_,rfl,az.outF (i:=9) rfl,az.below⟩
theorem pO(X:Cx)(vo bl sz pe to ne fl:Int)(hi:Bool)(place pins:List Int)(ws:List (Int×List (Int×List Int)))(items:List (Int×List Int))(pp pn pw:Option Addr)(cp cn9 cw:Nat)(pi:Option Addr)(ci:Nat)(w0:World)(hl:ws.length≤900000)(hil:items.length≤1000000)(hio:rx items)(m0:MemOk X w0 [(1,.dat (.slice pp place.length cp) (.ns .i64 place)),(2,.dat (.slice pn pins.length cn9) (.ns .i64 pins)),(3,.dat (.slice pw (ws.map wrD).length cw) (.l 2 (ws.map wrD))),(4,.dat (.slice pi items.length ci) (.l 2 (items.map itD)))] w0) :
   Calls Tryz.prog 124 #[.agg #[.int .i64 vo,.int .i64 bl,.int .i64 sz,.int .i64 pe,.slice pp place.length cp,.int .i64 to,.int .i64 ne,.bool hi,.int .i64 fl,.slice pn pins.length cn9,.slice pw (ws.map wrD).length cw],.slice pi items.length ci] w0 fun e w' => ∃ p c,e=.returned (.agg #[.int .i64 vo,.int .i64 bl,.int .i64 sz,.int .i64 pe,.slice pp place.length cp,.int .i64 to,.int .i64 ne,.bool hi,.int .i64 fl,.slice pn pins.length cn9,.slice p ((ws++[((ws.length:Int)+1,items)]).map wrD).length c])∧MemOk X w0 [(1,.dat (.slice pp place.length cp) (.ns .i64 place)),(2,.dat (.slice pn pins.length cn9) (.ns .i64 pins)),(3,.dat (.slice pw (ws.map wrD).length cw) (.l 2 (ws.map wrD))),(4,.dat (.slice pi items.length ci) (.l 2 (items.map itD))),(7,.dat (.slice p ((ws++[((ws.length:Int)+1,items)]).map wrD).length c) (.l 2 ((ws++[((ws.length:Int)+1,items)]).map wrD)))] w':=by
 refine mR Tryz.func124 rfl Tryz.ntmps124 fun Y U =>?_
 refine zsr fun K0 hK0 =>?_
 refine plz (ly U m0 20 (cs:=[_,_,_,_,_,_,_,_,_,_,_]) rfl rfl rfl fun g1 Y w2 U m2 _ _ =>?_)
 refine plz (lc U m2 21 mo rfl fun g3 Y w4 U m4 _ _ =>?_)
 refine znl (hK0 _ _ ?_)
 refine wsk fun K1 hK1 =>?_
 have m5:=m4.oz [1,2,3,4,20,21]
 refine region_p 12 (B:=[(1,_),(2,_),(3,_),(4,_),(20,_),(21,_)]) (m5.to i6l) m5 (by kernel_rfl) (fun w6 hP6 m6 =>?_);clear m5
 refine goR hP6 [0,1,3,6] [1,3] 4 0 75 U (m6.to i6l) (.fa 10 rfl U34<|.lb hh 20 U23 rfl rfl rfl<|.loadBR hh (i:=20) rfl rfl U34 rfl ld (by simp) (by dsimp only [List.drop,List.take] <;> rfl)<|.move rfl .nil) fun Y U =>?_
 have ah:=m6.nilR 22 30 2
 refine so 2 ?_
 refine lC U ah 22 rfl rfl rfl (ah.rd (i:=3) rfl) U23 oM rfl rfl (by decide) (by simp;omega) rfl fun ap aq Y ar U ai =>?_
 refine⟨ai.to i6l,?_⟩
 refine so 4 ?_
 refine ecb U Tryz.func37 rfl ai (me _ _ _ _ _ _ _ _ _ _ _ _ _ _ _ _ _ _) fun Y au U aa =>?_
 refine⟨aa.to i6l,?_⟩
 refine goA hP6 [5] 1 95 127 U (aa.to i6l) (.add rfl rfl (r:=(ws.length:Int)+1) (by rw[List.length_map];exact IntWalk.i64_in _ (by omega)) .nil) fun Y U =>?_
 refine so 7 ?_
 refine ecl U Tryz.func126 rfl (wO items _ _ _ _ ((aa.rd (i:=4) rfl).any) hil hio) ?_
 rintro e av ⟨aw,ax,rfl,ac,ad⟩
 have ab:=aa.callF 23 rfl ad ac
 refine⟨_,rfl,?_⟩;intro Y U
 refine⟨ab.to i6l,?_⟩
 refine goA hP6 [8] 1 255 511 U (ab.to i6l) (.build rfl rJ zS rfl (by dsimp only [l9,List.set] <;> rfl) .nil) fun Y U =>?_
 refine so 9 ?_
 refine lq U ab 24 (mm:=2) rfl (.cons rfl rfl (.cons (.v _) (.cons (ab.rd (i:=23) rfl) .nil)) .nil) U23 oM rfl rfl rfl rfl rfl fun ay Y az U aj =>?_
 refine⟨aj.to i6l,?_⟩
 have ak:=aj.freezeR 24 rfl
 refine so 10 ?_
 refine lC U ak 22 rfl rfl rfl (ak.rd (i:=24) rfl) U23 oM rfl rfl (by decide) (by simp;omega) rfl fun aA aB Y aC U ae =>?_
 refine⟨ae.to i6l,?_⟩
 refine goA hP6 [11] 1 2047 4095 U (ae.to i6l) (.fa 10 rfl U34 .nil) fun Y U =>?_
 refine se 12 ?_
 refine st1 U ae 20 uf fun aD al _ =>?_
 refine wad ?_
 refine hK1 _ _ ?_
 replace U:=U.oz [2,4]
 refine zsr fun K2 hK2 =>?_
 refine k9 U (.loadBR al (i:=20) rfl rfl U34 rfl ld (by simp) (by dsimp only [List.drop,List.take] <;> rfl) .nil) fun Y U =>?_
 refine plz (stw U al 21 ld fun aE ag _ =>?_)
 refine znl (hK2 _ _ ?_)
 refine rtd (mK (fn:=Tryz.f124) U ag (i:=21) rfl rfl rfl U34 rfl ld ?_)
 have hE:[]++ws.map wrD++[[D.v (.int .i64 ((ws.length:Int)+1)),.l 2 (items.map itD)]]=(ws++[((ws.length:Int)+1,items)]).map wrD:=by rw[List.map_append];rfl
 rw[hE] at ag ⊢
 have ao:=ag.freezeR 22 rfl
 exact⟨_,_,rfl,ao.ren [(1,1),(2,2),(3,3),(4,4),(7,22)] (by decide)⟩
end
section
theorem wR{j:Nat}{u:Int}(hj:j≤9)(hu:u<2 ^ (64 - 7*j))(h:128≤u):j+1≤9∧u / 128<2 ^ (64 - 7*(j+1)):=by
 have hc:j=0∨j=1∨j=2∨j=3∨j=4∨j=5∨j=6∨j=7∨j=8∨j=9:=by omega
 rcases hc with rfl|rfl|rfl|rfl|rfl|rfl|rfl|rfl|rfl|rfl <;> simp at hu ⊢ <;> omega
end
section
theorem tU(z:Int):0≤IntKind.u64.wrap z:=by
 have e:IntKind.u64.wrap z=z % 18446744073709551616:=by simp [IntKind.wrap,IntKind.signed,IntKind.bits]
 rw[e];omega
theorem qM(X:Cx)(B:Nat)(v:Value)(er cd:Int)(w0:World)(m0:MemOk X w0 [(1,.box B 66 [v,.int .i64 er])] w0) :
   Calls Tryz.prog 100 #[.pointer (some ⟨B,0,none⟩),.int .i64 cd] w0 fun e w'=>e=.returned (.tuple #[])∧MemOk X w0 [(1,.box B 66 [.slice none 0 0,.int .i64 cd])] w':=by
 refine mR Tryz.func100 rfl Tryz.ntmps100 fun Y U =>?_
 refine wp_region_lit ?_
 refine k9 U (.move rfl<|.move rfl<|.move rfl<|.nilCheck rfl<|.fa 0 rfl U66 .nil) fun Y U =>?_
 refine plz (st1 U m0 1 oN fun w6 m6 _ =>?_)
 refine k9 U (.nilCheck rfl<|.fa 1 rfl U66 .nil) fun Y U =>?_
 refine plz (st1 U m6 1 ma fun w9 m9 _ =>?_)
 refine wpList_nil ?_
 try dsimp only [Exit.then,Exit.inBlock]
 try refine sE ?_
 refine(AI (fn:=Tryz.f100) U rfl ?_)
 exact⟨rfl,m9.only [1]⟩
theorem tV(X:Cx)(B:Nat)(b:List Int)(er mx:Int)(p:Option Addr)(c:Nat)(w0:World)(hb:b.length≤1000000)(hbb:lg b)(hmx:0≤mx)(m0:MemOk X w0 [(1,.box B 66 [.slice p b.length c,.int .i64 er]),(2,.dat (.slice p b.length c) (.ns .u8 b))] w0) :
   Calls Tryz.prog 67 #[.pointer (some ⟨B,0,none⟩),.int .u64 mx] w0 fun e w' => ∃ (u:Int) (b':List Int) (p':Option Addr) (c':Nat) (er':Int),e=.returned (.int .u64 u)∧(0≤u∧u≤mx)∧b'.length≤b.length∧lg b'∧MemOk X w0 [(1,.box B 66 [.slice p' b'.length c',.int .i64 er']),(2,.dat (.slice p' b'.length c') (.ns .u8 b'))] w':=by
 refine mR Tryz.func67 rfl Tryz.ntmps67 fun Y U =>?_
 refine la U (.assign rfl .nil) fun Y U =>?_
 refine wsk fun K0 hK0 =>?_
 refine la U (.move rfl<|.nilCheck rfl<|.fa 1 rfl U66<|.lb m0 1 U3 rfl rfl rfl<|.neq rfl rfl .nil) fun Y U =>?_
 refine bc U 12 ?_ ?_
 ·
  intro hb7 U;try simp only [QQ,Qax] at hb7
  refine wct U ?_
  refine la U (.assign rfl .nil) fun Y U =>?_
  refine rt1 U ?_
  exact⟨0,b,_,_,_,rfl,⟨by omega,by omega⟩,by omega,hbb,m0.ren [(1,1),(2,2)] (by decide)⟩
 intro hb7 U;try simp only [QQ,Qax] at hb7
 refine wcf U ?_
 refine zss (hK0 _ _ ?_)
 refine la U (.assign rfl .nil) fun Y U =>?_
 refine wsk fun K1 hK1 =>?_
 refine la U (.assign rfl .nil) fun Y U =>?_
 refine wp_block ?_
 refine wp_loop_ghost (fun g a w => ∃ (k:Nat) (u:Int),k≤b.length∧g=b.length - k∧0≤u∧Has 73 [(0,.pointer (some ⟨B,0,none⟩)),(1,.int .u64 mx),(5,.int .u64 u),(6,.int .i64 k)] a∧MemOk X w0 [(1,.box B 66 [.slice p b.length c,.int .i64 er]),(2,.dat (.slice p b.length c) (.ns .u8 b))] w) (b.length) ?_ ?_
 · exact⟨0,0,Nat.zero_le _,rfl,Int.le_refl _,U.only [0,1,5,6],m0.only [1,2]⟩
 clear U m0
 rintro g Y bC ⟨k,u,hkl,hg,hu,U,ay⟩
 refine wsk fun K2 hK2 =>?_
 refine la U (.move rfl<|.move rfl<|.nilCheck rfl<|.fa 0 rfl U66<|.lb ay 1 U22 rfl rfl rfl<|.len rfl U22<|.lss rfl rfl .nil) fun Y U =>?_
 refine bc U 19 ?_ ?_
 ·
  intro ap U;try simp only [QQ,Qax] at ap
  have hk:k<b.length:=by omega
  refine wct U ?_
  refine zss (hK2 _ _ ?_)
  refine wsk fun K3 hK3 =>?_
  refine wp_block ?_
  replace U:=U.oz [0,1,5,6]
  refine zsr fun K4 hK4 =>?_
  refine k9 U (.move rfl<|.nilCheck rfl<|.fa 0 rfl U66<|.lb ay 1 U22 rfl rfl rfl<|.move rfl .nil) fun Y U =>?_
  obtain⟨bE,bF,aN,aa⟩:=ay.openN (i:=2) rfl (k) hk 100 rfl
  revert U
  cases aN
  intro U
  refine gz hK4 U (.c rfl (fun _ h_=>li h_ rfl rfl U22 mW (k) rfl hk)<|.loadC0 aa (i:=100) rfl rfl U5 rfl<|.assign rfl<|.nil) fun Y U =>?_
  refine wsk fun K5 hK5 =>?_
  replace U:=U.oz [0,1,5,6,7]
  refine zsr fun K6 hK6 =>?_
  refine k9 U (.move rfl<|.eql rfl rfl<|.move rfl .nil) fun Y U =>?_
  refine bc U 31 ?_ ?_
  ·
   intro aq U;try simp only [QQ,Qax] at aq
   refine gz hK6 U (.moveZ rfl<|.gtrZ rfl rfl<|.pickT rfl rfl<|.nil) fun Y U =>?_
   refine bc U 34 ?_ ?_
   ·
    intro ar U;try simp only [QQ,Qax] at ar
    refine wct U ?_
    replace U:=U.oz [0,1,5,6,7]
    refine zsr fun K7 hK7 =>?_
    refine k9 U (.move rfl .nil) fun Y U =>?_
    refine plz (ecl U Tryz.func100 rfl (qM _ _ _ _ _ _ (aa.into [(1,1)] (by decide) rfl)) ?_)
    rintro e bG ⟨rfl,az⟩
    have aO:=aa.back az [(1,1)] (by decide);clear az aa
    have bm:=aO.oz [1,2,100]
    refine⟨_,rfl,?_⟩;intro Y U
    refine znl (hK7 _ _ ?_)
    refine la U (.assign rfl .nil) fun Y U =>?_
    refine rt1 U ?_
    have bn:=bm.dat 90 rfl (Rd.nilN _ _ .u8 none)
    exact⟨0,[],_,_,_,rfl,⟨by omega,by omega⟩,by simp,(fun _ h=>by cases h),bn.ren [(1,1),(2,90)] (by decide)⟩
   intro ar U;try simp only [QQ,Qax] at ar
   refine wcf U ?_
   refine zss (hK5 _ _ ?_)
   replace U:=U.oz [0,1,5,6,7]
   refine la U (.move rfl<|.move rfl<|.and rfl rfl rfl<|.conv rfl U5 nb rfl<|.move rfl<|.mul rfl rfl (r:=7*(k:Int)) (IntWalk.i64_in _ (by omega))<|.shl rfl rfl (by omega) rfl<|.or rfl rfl rfl<|.assign rfl .nil) fun Y U =>?_
   replace U:=U.oz [0,1,5,6,7]
   refine la U (.move rfl<|.lss rfl rfl .nil) fun Y U =>?_
   refine bc U 46 ?_ ?_
   ·
    intro au U;try simp only [QQ,Qax] at au
    refine wct U ?_
    refine wsk fun K8 hK8 =>?_
    refine zsr fun K9 hK9 =>?_
    refine k9 U (.move rfl<|.gtr rfl rfl<|.move rfl .nil) fun Y U =>?_
    refine bc U 49 ?_ ?_
    ·
     intro av U;try simp only [QQ,Qax] at av
     refine gz hK9 U (.moveZ rfl<|.eqlZ rfl rfl<|.pickT rfl rfl<|.nil) fun Y U =>?_
     refine bc U 52 ?_ ?_
     ·
      intro aw U;try simp only [QQ,Qax] at aw
      refine wct U ?_
      replace U:=U.oz [0,1,5,6]
      refine zsr fun bH aP =>?_
      refine k9 U (.move rfl .nil) fun Y U =>?_
      refine plz (ecl U Tryz.func100 rfl (qM _ _ _ _ _ _ (aa.into [(1,1)] (by decide) rfl)) ?_)
      rintro e bI ⟨rfl,aA⟩
      have aQ:=aa.back aA [(1,1)] (by decide);clear aA aa
      have bo:=aQ.oz [1,2,100]
      refine⟨_,rfl,?_⟩;intro Y U
      refine znl (aP _ _ ?_)
      refine la U (.assign rfl .nil) fun Y U =>?_
      refine rt1 U ?_
      have bp:=bo.dat 90 rfl (Rd.nilN _ _ .u8 none)
      exact⟨0,[],_,_,_,rfl,⟨by omega,by omega⟩,by simp,(fun _ h=>by cases h),bp.ren [(1,1),(2,90)] (by decide)⟩
     intro aw U;try simp only [QQ,Qax] at aw
     refine wcf U ?_
     refine zss (hK8 _ _ ?_)
     refine wsk fun bJ aR =>?_
     replace U:=U.oz [0,1,5,6]
     refine la U (.move rfl<|.move rfl<|.gtr rfl rfl .nil) fun Y U =>?_
     refine bc U 57 ?_ ?_
     ·
      intro ax U;try simp only [QQ,Qax] at ax
      refine wct U ?_
      refine zsr fun bK aS =>?_
      refine k9 U (.move rfl .nil) fun Y U =>?_
      refine plz (ecl U Tryz.func100 rfl (qM _ _ _ _ _ _ (aa.into [(1,1)] (by decide) rfl)) ?_)
      rintro e bL ⟨rfl,aB⟩
      have aT:=aa.back aB [(1,1)] (by decide);clear aB aa
      have bq:=aT.oz [1,2,100]
      refine⟨_,rfl,?_⟩;intro Y U
      refine znl (aS _ _ ?_)
      refine la U (.assign rfl .nil) fun Y U =>?_
      refine rt1 U ?_
      have br:=bq.dat 90 rfl (Rd.nilN _ _ .u8 none)
      exact⟨0,[],_,_,_,rfl,⟨by omega,by omega⟩,by simp,(fun _ h=>by cases h),br.ren [(1,1),(2,90)] (by decide)⟩
     intro ax U;try simp only [QQ,Qax] at ax
     refine wcf U ?_
     refine zss (aR _ _ ?_)
     refine zsr fun bM aU =>?_
     refine k9 U (.move rfl<|.move rfl<|.nilCheck rfl<|.fa 0 rfl U66<|.lb aa 1 U22 rfl rfl rfl<|.move rfl<|.inc (k+1) .nil) fun Y U =>?_
     have aV:=aa.dropN (i:=2) rfl (k+1) (show k+1≤b.length by omega) 101 rfl
     refine k9 U (.c rfl (fun _ h_=>lK h_ (k+1) rfl rfl U22 mW rfl (show k+1≤b.length by omega))<|.nilCheck rfl<|.fa 0 rfl U66 .nil) fun Y U =>?_
     refine plz (st1 U aV 1 oN fun bs aC _ =>?_)
     refine znl (aU _ _ ?_)
     replace U:=U.oz [0,1,5,6,57]
     refine la U (.move rfl<|.assign rfl .nil) fun Y U =>?_
     refine rt1 U ?_
     have hl9:b.length - (k+1)=(b.drop (k+1)).length:=by rw[List.length_drop]
     rw[hl9] at aC
     exact⟨_,b.drop (k+1),_,_,_,rfl,⟨tU _,by omega⟩,by rw[List.length_drop];omega,(fun x hx=>hbb x (List.mem_of_mem_drop hx)),aC.ren [(1,1),(2,101)] (by decide)⟩
    intro av U;try simp only [QQ,Qax] at av
    refine gz hK9 U (.sk<|.sk<|.pickF rfl rfl<|.nil) fun Y U =>?_
    refine wcf U ?_
    refine zss (hK8 _ _ ?_)
    refine wsk fun bN aW =>?_
    replace U:=U.oz [0,1,5,6]
    refine la U (.move rfl<|.move rfl<|.gtr rfl rfl .nil) fun Y U =>?_
    refine bc U 57 ?_ ?_
    ·
     intro ab U;try simp only [QQ,Qax] at ab
     refine wct U ?_
     refine zsr fun bO aX =>?_
     refine k9 U (.move rfl .nil) fun Y U =>?_
     refine plz (ecl U Tryz.func100 rfl (qM _ _ _ _ _ _ (aa.into [(1,1)] (by decide) rfl)) ?_)
     rintro e bt ⟨rfl,ai⟩
     have aD:=aa.back ai [(1,1)] (by decide);clear ai aa
     have aY:=aD.oz [1,2,100]
     refine⟨_,rfl,?_⟩;intro Y U
     refine znl (aX _ _ ?_)
     refine la U (.assign rfl .nil) fun Y U =>?_
     refine rt1 U ?_
     have aZ:=aY.dat 90 rfl (Rd.nilN _ _ .u8 none)
     exact⟨0,[],_,_,_,rfl,⟨by omega,by omega⟩,by simp,(fun _ h=>by cases h),aZ.ren [(1,1),(2,90)] (by decide)⟩
    intro ab U;try simp only [QQ,Qax] at ab
    refine wcf U ?_
    refine zss (aW _ _ ?_)
    refine zsr fun bP a0 =>?_
    refine k9 U (.move rfl<|.move rfl<|.nilCheck rfl<|.fa 0 rfl U66<|.lb aa 1 U22 rfl rfl rfl<|.move rfl<|.inc (k+1) .nil) fun Y U =>?_
    have a1:=aa.dropN (i:=2) rfl (k+1) (show k+1≤b.length by omega) 101 rfl
    refine k9 U (.c rfl (fun _ h_=>lK h_ (k+1) rfl rfl U22 mW rfl (show k+1≤b.length by omega))<|.nilCheck rfl<|.fa 0 rfl U66 .nil) fun Y U =>?_
    refine plz (st1 U a1 1 oN fun bu aE _ =>?_)
    refine znl (a0 _ _ ?_)
    replace U:=U.oz [0,1,5,6,57]
    refine la U (.move rfl<|.assign rfl .nil) fun Y U =>?_
    refine rt1 U ?_
    have hl9:b.length - (k+1)=(b.drop (k+1)).length:=by rw[List.length_drop]
    rw[hl9] at aE
    exact⟨_,b.drop (k+1),_,_,_,rfl,⟨tU _,by omega⟩,by rw[List.length_drop];omega,(fun x hx=>hbb x (List.mem_of_mem_drop hx)),aE.ren [(1,1),(2,101)] (by decide)⟩
   intro au U;try simp only [QQ,Qax] at au
   refine wcf U ?_
   refine zss (hK3 _ _ ?_)
   refine wp_region_lit ?_
   refine k9 U (.move rfl<|.inc (k+1)<|.assign rfl .nil) fun Y U =>?_
   refine wpList_nil ?_
   show ∃ n',n'<_∧_
   exact⟨b.length - (k+1),by omega,k+1,_,by omega,rfl,tU _,U.only [0,1,5,6],aa.only [1,2]⟩
  intro aq U;try simp only [QQ,Qax] at aq
  refine gz hK6 U (.sk<|.sk<|.pickF rfl rfl<|.nil) fun Y U =>?_
  refine wcf U ?_
  refine zss (hK5 _ _ ?_)
  replace U:=U.oz [0,1,5,6,7]
  refine la U (.move rfl<|.move rfl<|.and rfl rfl rfl<|.conv rfl U5 nb rfl<|.move rfl<|.mul rfl rfl (r:=7*(k:Int)) (IntWalk.i64_in _ (by omega))<|.shl rfl rfl (by omega) rfl<|.or rfl rfl rfl<|.assign rfl .nil) fun Y U =>?_
  replace U:=U.oz [0,1,5,6,7]
  refine la U (.move rfl<|.lss rfl rfl .nil) fun Y U =>?_
  refine bc U 46 ?_ ?_
  ·
   intro ac U;try simp only [QQ,Qax] at ac
   refine wct U ?_
   refine wsk fun bQ aF =>?_
   refine zsr fun bR aG =>?_
   refine k9 U (.move rfl<|.gtr rfl rfl<|.move rfl .nil) fun Y U =>?_
   refine bc U 49 ?_ ?_
   ·
    intro ad U;try simp only [QQ,Qax] at ad
    refine gz aG U (.moveZ rfl<|.eqlZ rfl rfl<|.pickT rfl rfl<|.nil) fun Y U =>?_
    refine bc U 52 ?_ ?_
    ·
     intro ae U;try simp only [QQ,Qax] at ae
     refine wct U ?_
     replace U:=U.oz [0,1,5,6]
     refine zsr fun bS a2 =>?_
     refine k9 U (.move rfl .nil) fun Y U =>?_
     refine plz (ecl U Tryz.func100 rfl (qM _ _ _ _ _ _ (aa.into [(1,1)] (by decide) rfl)) ?_)
     rintro e bv ⟨rfl,aj⟩
     have aH:=aa.back aj [(1,1)] (by decide);clear aj aa
     have a3:=aH.oz [1,2,100]
     refine⟨_,rfl,?_⟩;intro Y U
     refine znl (a2 _ _ ?_)
     refine la U (.assign rfl .nil) fun Y U =>?_
     refine rt1 U ?_
     have a4:=a3.dat 90 rfl (Rd.nilN _ _ .u8 none)
     exact⟨0,[],_,_,_,rfl,⟨by omega,by omega⟩,by simp,(fun _ h=>by cases h),a4.ren [(1,1),(2,90)] (by decide)⟩
    intro ae U;try simp only [QQ,Qax] at ae
    refine wcf U ?_
    refine zss (aF _ _ ?_)
    refine wsk fun bT a5 =>?_
    replace U:=U.oz [0,1,5,6]
    refine la U (.move rfl<|.move rfl<|.gtr rfl rfl .nil) fun Y U =>?_
    refine bc U 57 ?_ ?_
    ·
     intro ag U;try simp only [QQ,Qax] at ag
     refine wct U ?_
     refine zsr fun bU a6 =>?_
     refine k9 U (.move rfl .nil) fun Y U =>?_
     refine plz (ecl U Tryz.func100 rfl (qM _ _ _ _ _ _ (aa.into [(1,1)] (by decide) rfl)) ?_)
     rintro e bw ⟨rfl,ak⟩
     have aI:=aa.back ak [(1,1)] (by decide);clear ak aa
     have a7:=aI.oz [1,2,100]
     refine⟨_,rfl,?_⟩;intro Y U
     refine znl (a6 _ _ ?_)
     refine la U (.assign rfl .nil) fun Y U =>?_
     refine rt1 U ?_
     have a8:=a7.dat 90 rfl (Rd.nilN _ _ .u8 none)
     exact⟨0,[],_,_,_,rfl,⟨by omega,by omega⟩,by simp,(fun _ h=>by cases h),a8.ren [(1,1),(2,90)] (by decide)⟩
    intro ag U;try simp only [QQ,Qax] at ag
    refine wcf U ?_
    refine zss (a5 _ _ ?_)
    refine zsr fun bV a9 =>?_
    refine k9 U (.move rfl<|.move rfl<|.nilCheck rfl<|.fa 0 rfl U66<|.lb aa 1 U22 rfl rfl rfl<|.move rfl<|.inc (k+1) .nil) fun Y U =>?_
    have ba:=aa.dropN (i:=2) rfl (k+1) (show k+1≤b.length by omega) 101 rfl
    refine k9 U (.c rfl (fun _ h_=>lK h_ (k+1) rfl rfl U22 mW rfl (show k+1≤b.length by omega))<|.nilCheck rfl<|.fa 0 rfl U66 .nil) fun Y U =>?_
    refine plz (st1 U ba 1 oN fun bx aJ _ =>?_)
    refine znl (a9 _ _ ?_)
    replace U:=U.oz [0,1,5,6,57]
    refine la U (.move rfl<|.assign rfl .nil) fun Y U =>?_
    refine rt1 U ?_
    have hl9:b.length - (k+1)=(b.drop (k+1)).length:=by rw[List.length_drop]
    rw[hl9] at aJ
    exact⟨_,b.drop (k+1),_,_,_,rfl,⟨tU _,by omega⟩,by rw[List.length_drop];omega,(fun x hx=>hbb x (List.mem_of_mem_drop hx)),aJ.ren [(1,1),(2,101)] (by decide)⟩
   intro ad U;try simp only [QQ,Qax] at ad
   refine gz aG U (.sk<|.sk<|.pickF rfl rfl<|.nil) fun Y U =>?_
   refine wcf U ?_
   refine zss (aF _ _ ?_)
   refine wsk fun bW bb =>?_
   replace U:=U.oz [0,1,5,6]
   refine la U (.move rfl<|.move rfl<|.gtr rfl rfl .nil) fun Y U =>?_
   refine bc U 57 ?_ ?_
   ·
    intro ah U;try simp only [QQ,Qax] at ah
    refine wct U ?_
    refine zsr fun bX bd =>?_
    refine k9 U (.move rfl .nil) fun Y U =>?_
    refine plz (ecl U Tryz.func100 rfl (qM _ _ _ _ _ _ (aa.into [(1,1)] (by decide) rfl)) ?_)
    rintro e bz ⟨rfl,al⟩
    have aK:=aa.back al [(1,1)] (by decide);clear al aa
    have be:=aK.oz [1,2,100]
    refine⟨_,rfl,?_⟩;intro Y U
    refine znl (bd _ _ ?_)
    refine la U (.assign rfl .nil) fun Y U =>?_
    refine rt1 U ?_
    have bf:=be.dat 90 rfl (Rd.nilN _ _ .u8 none)
    exact⟨0,[],_,_,_,rfl,⟨by omega,by omega⟩,by simp,(fun _ h=>by cases h),bf.ren [(1,1),(2,90)] (by decide)⟩
   intro ah U;try simp only [QQ,Qax] at ah
   refine wcf U ?_
   refine zss (bb _ _ ?_)
   refine zsr fun bY bg =>?_
   refine k9 U (.move rfl<|.move rfl<|.nilCheck rfl<|.fa 0 rfl U66<|.lb aa 1 U22 rfl rfl rfl<|.move rfl<|.inc (k+1) .nil) fun Y U =>?_
   have bh:=aa.dropN (i:=2) rfl (k+1) (show k+1≤b.length by omega) 101 rfl
   refine k9 U (.c rfl (fun _ h_=>lK h_ (k+1) rfl rfl U22 mW rfl (show k+1≤b.length by omega))<|.nilCheck rfl<|.fa 0 rfl U66 .nil) fun Y U =>?_
   refine plz (st1 U bh 1 oN fun bA aL _ =>?_)
   refine znl (bg _ _ ?_)
   replace U:=U.oz [0,1,5,6,57]
   refine la U (.move rfl<|.assign rfl .nil) fun Y U =>?_
   refine rt1 U ?_
   have hl9:b.length - (k+1)=(b.drop (k+1)).length:=by rw[List.length_drop]
   rw[hl9] at aL
   exact⟨_,b.drop (k+1),_,_,_,rfl,⟨tU _,by omega⟩,by rw[List.length_drop];omega,(fun x hx=>hbb x (List.mem_of_mem_drop hx)),aL.ren [(1,1),(2,101)] (by decide)⟩
  intro ac U;try simp only [QQ,Qax] at ac
  refine wcf U ?_
  refine zss (hK3 _ _ ?_)
  refine wp_region_lit ?_
  refine k9 U (.move rfl<|.inc (k+1)<|.assign rfl .nil) fun Y U =>?_
  refine wpList_nil ?_
  show ∃ n',n'<_∧_
  exact⟨b.length - (k+1),by omega,k+1,_,by omega,rfl,tU _,U.only [0,1,5,6],aa.only [1,2]⟩
 intro ap U;try simp only [QQ,Qax] at ap
 refine wcf U ?_
 refine wp_exit ?_
 refine hK1 _ _ ?_
 replace U:=U.oz [0,1,5,6]
 refine zsr fun bZ bi =>?_
 refine k9 U (.move rfl .nil) fun Y U =>?_
 refine plz (ecl U Tryz.func100 rfl (qM _ _ _ _ _ _ (ay.into [(1,1)] (by decide) rfl)) ?_)
 rintro e bB ⟨rfl,ao⟩
 have aM:=ay.back ao [(1,1)] (by decide);clear ao ay
 have bj:=aM.oz [1,2]
 refine⟨_,rfl,?_⟩;intro Y U
 refine znl (bi _ _ ?_)
 refine la U (.assign rfl .nil) fun Y U =>?_
 refine rt1 U ?_
 have bk:=bj.dat 90 rfl (Rd.nilN _ _ .u8 none)
 exact⟨0,[],_,_,_,rfl,⟨by omega,by omega⟩,by simp,(fun _ h=>by cases h),bk.ren [(1,1),(2,90)] (by decide)⟩
end
section
theorem tW(X:Cx)(B:Nat)(b:List Int)(er:Int)(p:Option Addr)(c:Nat)(w0:World)(hb:b.length≤1000000)(hbb:lg b)(m0:MemOk X w0 [(1,.box B 66 [.slice p b.length c,.int .i64 er]),(2,.dat (.slice p b.length c) (.ns .u8 b))] w0) :
   Calls Tryz.prog 120 #[.pointer (some ⟨B,0,none⟩)] w0 fun e w' => ∃ (pl b':List Int) (p':Option Addr) (c':Nat) (er':Int) (p3:Option Addr) (c3:Nat),e=.returned (.slice p3 pl.length c3)∧pl.length≤256∧b'.length≤b.length∧lg b'∧MemOk X w0 [(1,.box B 66 [.slice p' b'.length c',.int .i64 er']),(2,.dat (.slice p' b'.length c') (.ns .u8 b')),(3,.dat (.slice p3 pl.length c3) (.ns .i64 pl))] w':=by
 refine mp Tryz.func120 rfl Tryz.ntmps120 fun Y U =>?_
 refine la U (.assign rfl .nil) fun Y U =>?_
 refine la U (.assign rfl .nil) fun Y U =>?_
 refine zsr fun K0 hK0 =>?_
 refine k9 U (.move rfl .nil) fun Y U =>?_
 refine plz (ecl U Tryz.func67 rfl (tV _ _ b _ 256 _ _ _ (by omega) hbb (by decide) (m0.into [(1,1),(2,2)] (by decide) rfl)) ?_)
 rintro e w5 ⟨un,b2,p5,c5,er5,rfl,huun,hbl2,hbb2,hm5⟩
 have mx5:=m0.back hm5 [(1,1),(2,2)] (by decide);clear hm5 m0
 have m5:=mx5.oz [1,2]
 refine⟨_,rfl,?_⟩;intro Y U
 refine gz hK0 U (.assign rfl .nil) fun Y U =>?_
 refine wsk fun K1 hK1 =>?_
 refine la U (.assign rfl .nil) fun Y U =>?_
 refine wp_block ?_
 refine wp_loop_ghost (fun g a w => ∃ (k:Nat) (pl b1:List Int) (p1:Option Addr) (c1:Nat) (er1:Int) (p3:Option Addr) (c3:Nat),(k:Int)≤un∧g=un.toNat - k∧pl.length≤k∧b1.length≤b.length∧lg b1∧Has 27 [(0,.pointer (some ⟨B,0,none⟩)),(3,.slice p3 pl.length c3),(4,.int .u64 un),(5,.int .u64 (k:Int))] a∧MemOk X w0 [(1,.box B 66 [.slice p1 b1.length c1,.int .i64 er1]),(2,.dat (.slice p1 b1.length c1) (.ns .u8 b1)),(9,.num (.slice p3 pl.length c3) 3 .i64 pl)] w) (un.toNat) ?_ ?_
 · have mz:=m5.nilN 9 3 .i64
   exact⟨0,[],b2,_,_,_,_,_,by omega,rfl,Nat.le_refl _,hbl2,hbb2,U.only [0,3,4,5],mz.only [1,2,9]⟩
 clear U m5
 rintro g Y w9 ⟨k,pl,b1,p1,c1,er1,p3,c3,hku,hg,hpl,hbl1,hbb1,U,m9⟩
 refine wsk fun K2 hK2 =>?_
 refine zsr fun K3 hK3 =>?_
 refine k9 U (.move rfl<|.move rfl<|.lss rfl rfl<|.move rfl .nil) fun Y U =>?_
 refine bc U 11 ?_ ?_
 ·
  intro aa U;try simp only [QQ,Qax] at aa
  refine gz hK3 U (.moveZ rfl<|.nilCheckZ rfl<|.faZ 1 rfl U66<|.loadB1Z m9 (i:=1) rfl rfl rfl U3 rfl<|.eqlZ rfl rfl<|.pickT rfl rfl<|.nil) fun Y U =>?_
  refine bc U 17 ?_ ?_
  ·
   intro ab U;try simp only [QQ,Qax] at ab
   refine wct U ?_
   refine zss (hK2 _ _ ?_)
   refine wsk fun K4 hK4 =>?_
   refine wp_block ?_
   replace U:=U.oz [0,3,4,5]
   refine wp_region_lit ?_
   refine k9 U (.move rfl<|.move rfl .nil) fun Y U =>?_
   refine plz (ecl U Tryz.func67 rfl (tV _ _ b1 _ 8 _ _ _ (by omega) hbb1 (by decide) (m9.into [(1,1),(2,2)] (by decide) rfl)) ?_)
   rintro e al ⟨uv,b2,ao,ap,ag,rfl,huuv,hbl2,hbb2,ac⟩
   have ad:=m9.back ac [(1,1),(2,2)] (by decide);clear ac m9
   have ah:=ad.oz [1,2,9]
   refine⟨_,rfl,?_⟩;intro Y U
   refine k9 U (.conv rfl nb U3 (r:=uv) (IntWalk.i64_in _ (by omega)) .nil) fun Y U =>?_
   refine plz (lj U ah 100 (k:=.i64) rfl rfl U31 ov rfl rfl rfl rfl fun aq Y ar U ae =>?_)
   refine plz (lE U ae 9 rfl rfl rfl (ae.numsO (i:=100) rfl) U31 ov (by decide) (by simp;omega) rfl fun au av Y aw U ai =>?_)
   refine gz hK4 U (.assign rfl .nil) fun Y U =>?_
   replace U:=U.oz [0,3,4,5]
   refine wp_region_lit ?_
   refine k9 U (.move rfl<|.add rfl rfl (r:=((k+1:Nat):Int)) (by rw[IntWalk.u64_in _ (by omega)];omega)<|.assign rfl .nil) fun Y U =>?_
   refine wpList_nil ?_
   show ∃ n',n'<_∧_
   exact⟨un.toNat - (k+1),by omega,k+1,_,b2,_,_,_,_,_,by omega,rfl,by simp;omega,by omega,hbb2,U.only [0,3,4,5],ai.only [1,2,9]⟩
  intro ab U;try simp only [QQ,Qax] at ab
  refine wcf U ?_
  refine wp_exit ?_
  refine hK1 _ _ ?_
  replace U:=U.oz [0,3,4,5]
  refine la U (.move rfl<|.assign rfl .nil) fun Y U =>?_
  refine rt1 U ?_
  have aj:=m9.freezeN 9 rfl
  exact⟨pl,b1,_,_,_,_,_,rfl,by omega,hbl1,hbb1,aj.ren [(1,1),(2,2),(3,9)] (by decide)⟩
 intro aa U;try simp only [QQ,Qax] at aa
 refine gz hK3 U (.sk<|.sk<|.sk<|.sk<|.sk<|.pickF rfl rfl<|.nil) fun Y U =>?_
 refine wcf U ?_
 refine wp_exit ?_
 refine hK1 _ _ ?_
 replace U:=U.oz [0,3,4,5]
 refine la U (.move rfl<|.assign rfl .nil) fun Y U =>?_
 refine rt1 U ?_
 have ak:=m9.freezeN 9 rfl
 exact⟨pl,b1,_,_,_,_,_,rfl,by omega,hbl1,hbb1,ak.ren [(1,1),(2,2),(3,9)] (by decide)⟩
end
section
theorem zX(X:Cx)(B:Nat)(b:List Int)(er mx:Int)(p:Option Addr)(c:Nat)(w0:World)(hb:b.length≤1000000)(hbb:lg b)(hmx:0≤mx∧mx≤1000000)(m0:MemOk X w0 [(1,.box B 66 [.slice p b.length c,.int .i64 er]),(2,.dat (.slice p b.length c) (.ns .u8 b))] w0) :
   Calls Tryz.prog 70 #[.pointer (some ⟨B,0,none⟩),.int .i64 mx] w0 fun e w' => ∃ (d b':List Int) (p':Option Addr) (c':Nat) (er':Int) (p3:Option Addr) (c3:Nat),e=.returned (.slice p3 d.length c3)∧(d.length:Int)≤mx∧lg d∧b'.length≤b.length∧lg b'∧MemOk X w0 [(1,.box B 66 [.slice p' b'.length c',.int .i64 er']),(2,.dat (.slice p' b'.length c') (.ns .u8 b')),(3,.dat (.slice p3 d.length c3) (.ns .u8 d))] w':=by
 refine mR Tryz.func70 rfl Tryz.ntmps70 fun Y U =>?_
 refine la U (.assign rfl .nil) fun Y U =>?_
 refine zsr fun K0 hK0 =>?_
 refine k9 U (.move rfl<|.move rfl<|.c rfl (fun _ h_=>oK h_ rfl rfl (r:=mx) (by omega))<|.conv rfl U3 nb (r:=mx) (IntWalk.u64_in _ (by omega)) .nil) fun Y U =>?_
 refine plz (ecl U Tryz.func67 rfl (tV _ _ b _ mx _ _ _ hb hbb hmx.1 (m0.into [(1,1),(2,2)] (by decide) rfl)) ?_)
 rintro e av ⟨u,b2,aw,ax,ak,rfl,hu,hbl2,hbb2,ae⟩
 have ah:=m0.back ae [(1,1),(2,2)] (by decide);clear ae m0
 have aa:=ah.oz [1,2]
 refine⟨_,rfl,?_⟩;intro Y U
 refine gz hK0 U (.assign rfl .nil) fun Y U =>?_
 refine wsk fun K1 hK1 =>?_
 replace U:=U.oz [0,4,5]
 refine la U (.move rfl<|.nilCheck rfl<|.fa 1 rfl U66<|.lb aa 1 U3 rfl rfl rfl<|.neq rfl rfl .nil) fun Y U =>?_
 refine bc U 16 ?_ ?_
 ·
  intro ab U;try simp only [QQ,Qax] at ab
  refine wct U ?_
  refine la U (.assign rfl .nil) fun Y U =>?_
  refine rt1 U ?_
  have al:=aa.dat 20 rfl (Rd.nilN _ _ .u8 none)
  exact⟨[],b2,_,_,_,_,_,rfl,by simpa using hmx.1,(fun _ h=>by cases h),hbl2,hbb2,al.ren [(1,1),(2,2),(3,20)] (by decide)⟩
 intro ab U;try simp only [QQ,Qax] at ab
 refine wcf U ?_
 refine zss (hK1 _ _ ?_)
 refine wsk fun K2 hK2 =>?_
 refine la U (.move rfl<|.move rfl<|.nilCheck rfl<|.fa 0 rfl U66<|.lb aa 1 U22 rfl rfl rfl<|.len rfl U22<|.conv rfl U3 nb (r:=(b2.length:Int)) (IntWalk.u64_in _ (by omega))<|.gtr rfl rfl .nil) fun Y U =>?_
 refine bc U 24 ?_ ?_
 ·
  intro ac U;try simp only [QQ,Qax] at ac
  refine wct U ?_
  replace U:=U.oz [0,4,5]
  refine zsr fun K3 hK3 =>?_
  refine k9 U (.move rfl .nil) fun Y U =>?_
  refine plz (ecl U Tryz.func100 rfl (qM _ _ _ _ _ _ (aa.into [(1,1)] (by decide) rfl)) ?_)
  rintro e ay ⟨rfl,ag⟩
  have ai:=aa.back ag [(1,1)] (by decide);clear ag aa
  have ao:=ai.oz [1,2]
  refine⟨_,rfl,?_⟩;intro Y U
  refine znl (hK3 _ _ ?_)
  refine la U (.assign rfl .nil) fun Y U =>?_
  refine rt1 U ?_
  have ap:=ao.dat 20 rfl (Rd.nilN _ _ .u8 none)
  have aq:=ap.dat 21 rfl (Rd.nilN _ _ .u8 none)
  exact⟨[],[],_,_,_,_,_,rfl,by simpa using hmx.1,(fun _ h=>by cases h),by simp,(fun _ h=>by cases h),aq.ren [(1,1),(2,21),(3,20)] (by decide)⟩
 intro ac U;try simp only [QQ,Qax] at ac
 obtain⟨un,hune⟩:∃ n:Nat,u=(n:Int):=⟨u.toNat,by omega⟩
 have hun:un≤b2.length:=by omega
 refine wcf U ?_
 refine zss (hK2 _ _ ?_)
 replace U:=U.oz [0,4,5]
 refine zsr fun K4 hK4 =>?_
 refine k9 U (.move rfl<|.nilCheck rfl<|.fa 0 rfl U66<|.lb aa 1 U22 rfl rfl rfl<|.move rfl .nil) fun Y U =>?_
 have ad:=(aa.rd (i:=2) rfl).ns_out.cap
 have aj:=aa.takeN (i:=2) rfl un hun 20 rfl
 refine gz hK4 U (.c rfl (fun _ h_=>mD h_ un rfl rfl U22 mW hune (Nat.le_trans hun ad.1))<|.assign rfl<|.nil) fun Y U =>?_
 replace U:=U.oz [0,4,5,6]
 refine zsr fun K5 hK5 =>?_
 refine k9 U (.move rfl<|.move rfl<|.nilCheck rfl<|.fa 0 rfl U66<|.lb aj 1 U22 rfl rfl rfl<|.move rfl .nil) fun Y U =>?_
 have ar:=aj.dropN (i:=2) rfl un hun 21 rfl
 refine k9 U (.c rfl (fun _ h_=>lK h_ un rfl rfl U22 mW hune hun)<|.nilCheck rfl<|.fa 0 rfl U66 .nil) fun Y U =>?_
 refine plz (st1 U ar 1 oN fun az au _ =>?_)
 refine znl (hK5 _ _ ?_)
 replace U:=U.oz [4,6]
 refine la U (.move rfl<|.assign rfl .nil) fun Y U =>?_
 refine rt1 U ?_
 have hl8:un=(b2.take un).length:=by rw[List.length_take];omega
 have hl9:b2.length - un=(b2.drop un).length:=by rw[List.length_drop]
 exact⟨b2.take un,b2.drop un,_,_,_,_,_,by rw[← hl8],by rw[← hl8];omega,(fun x hx=>hbb2 x (List.mem_of_mem_take hx)),by rw[← hl9];omega,(fun x hx=>hbb2 x (List.mem_of_mem_drop hx)),by rw[← hl8,← hl9];exact au.ren [(1,1),(2,21),(3,20)] (by decide)⟩
end
section
theorem mE{a b:List Int}(ha:lg a)(hb:lg b):lg (a++b):=fun x hx=>(List.mem_append.1 hx).elim (ha x) (hb x)
theorem yZ(x:Int):∀ k,k < [IntKind.u64.wrap x].length→0≤[IntKind.u64.wrap x].getD k 0∧[IntKind.u64.wrap x].getD k 0<2 ^ 64:=fun k hk=>by
 obtain rfl:k=0:=by simpa using hk
 have e:IntKind.u64.wrap x=x % 18446744073709551616:=by simp [IntKind.wrap,IntKind.signed,IntKind.bits]
 simp [e];omega
theorem qL(xs:List Int)(q:Option Addr)(cq:Nat)(w0:World)(h0:Rd (fun _=>True) w0 (.slice q xs.length cq) (.ns .u64 xs))(hl:xs.length≤1000000)(hxb:∀ k,k<xs.length→0≤xs.getD k 0∧xs.getD k 0<2 ^ 64) :
   Calls Tryz.prog 88 #[.slice q xs.length cq] w0 fun e w' => ∃ (b:List Int) (p:Option Addr) (c:Nat),e=.returned (.slice p b.length c)∧b.length≤10*xs.length∧lg b∧w'.ownsRow w0.heap.size 5 1 (.slice p b.length c) b.length (b.map (Value.int .u8))∧Below w0.heap.size w0 w':=by
 refine mp Tryz.func88 rfl Tryz.ntmps88 fun Y U =>?_
 have m0:=MemOk.start (fun _=>False) w0
 refine la U (.assign rfl .nil) fun Y U =>?_
 refine la U (.assign rfl .nil) fun Y U =>?_
 refine wsk fun K0 hK0 =>?_
 refine la U (.assign rfl .nil) fun Y U =>?_
 refine wp_block ?_
 refine wp_loop_ghost (fun g a w => ∃ (k:Nat) (b:List Int) (p:Option Addr) (c:Nat),k≤xs.length∧g=xs.length - k∧b.length≤10*k∧lg b∧Has 32 [(0,.slice q xs.length cq),(3,.slice p b.length c),(4,.int .i64 k)] a∧MemOk (cn w0) w0 [(9,.num (.slice p b.length c) 5 .u8 b)] w) (xs.length) ?_ ?_
 · have mz:=m0.nilN 9 5 .u8
   exact⟨0,[],_,_,Nat.zero_le _,rfl,by simp,(fun _ h=>by cases h),U.only [0,3,4],mz.only [9]⟩
 clear U m0
 rintro g Y w4 ⟨k,b,p,c,hkl,hg,hbl,hbb,U,m4⟩
 refine wsk fun K1 hK1 =>?_
 refine la U (.move rfl<|.move rfl<|.len rfl tZ<|.lss rfl rfl .nil) fun Y U =>?_
 refine bc U 9 ?_ ?_
 ·
  intro hb9 U;try simp only [QQ,Qax] at hb9
  have hk:k<xs.length:=by omega
  have hxk:=hxb k hk
  refine wct U ?_
  refine zss (hK1 _ _ ?_)
  refine wsk fun K2 hK2 =>?_
  refine wp_block ?_
  refine zsr fun K3 hK3 =>?_
  refine k9 U (.move rfl<|.move rfl .nil) fun Y U =>?_
  obtain⟨ac,ad,ae,aj,ab⟩:=h0.extN (k) hk
  revert U
  cases ae
  intro U
  refine gz hK3 U (.c rfl (fun _ h_=>li h_ rfl rfl tZ zn (k) rfl hk)<|.loadAt1 (ab m4 rfl) (q:=0) rfl rfl rfl nb rfl<|.assign rfl<|.nil) fun Y U =>?_
  refine wsk fun K4 hK4 =>?_
  refine wp_block ?_
  refine wp_loop_ghost (fun g a w => ∃ (j:Nat) (u:Int) (b:List Int) (p:Option Addr) (c:Nat),j≤9∧0≤u∧u<2 ^ (64 - 7*j)∧g=u.toNat∧b.length≤10*k+j∧lg b∧Has 32 [(0,.slice (some ⟨ac,ad,none⟩) xs.length cq),(3,.slice p b.length c),(4,.int .i64 k),(5,.int .u64 u)] a∧MemOk (cn w0) w0 [(9,.num (.slice p b.length c) 5 .u8 b)] w) ((xs.getD k 0).toNat) ?_ ?_
  · exact⟨0,xs.getD k 0,b,_,_,by omega,by omega,by simpa using hxk.2,rfl,by omega,hbb,U.only [0,3,4,5],m4.only [9]⟩
  clear U m4
  rintro g Y ao ⟨j,u,b,p,c,hj9,hu0,hu1,hg2,hbl2,hbb2,U,ag⟩
  refine wsk fun K5 hK5 =>?_
  refine la U (.move rfl<|.geq rfl rfl .nil) fun Y U =>?_
  refine bc U 17 ?_ ?_
  ·
   intro aa U;try simp only [QQ,Qax] at aa
   obtain⟨z,hz,hzb⟩:∃ z,IntKind.u8.wrap ((BitVec.ofInt IntKind.u8.bits (IntKind.u8.wrap u) ||| BitVec.ofInt IntKind.u8.bits 128).toNat)=z∧0≤z∧z≤255:=⟨_,rfl,rI _⟩
   obtain⟨hj8,hu2⟩:=wR hj9 hu1 (by omega)
   refine wct U ?_
   refine zss (hK5 _ _ ?_)
   refine wp_block ?_
   refine zsr fun K6 hK6 =>?_
   refine k9 U (.move rfl<|.move rfl<|.conv rfl nb U5 rfl<|.or rfl rfl (r:=z) hz .nil) fun Y U =>?_
   refine plz (lj U ag 200 (k:=.u8) rfl rfl U22 lJ rfl rfl rfl rfl fun ap Y aq U ah =>?_)
   refine plz (lE U ah 9 rfl rfl rfl (ah.numsO (i:=200) rfl) U22 lJ (by decide) (by simp;omega) rfl fun ar au Y av U ak =>?_)
   refine gz hK6 U (.assign rfl .nil) fun Y U =>?_
   replace U:=U.oz [0,3,4,5]
   refine wp_region_lit ?_
   refine k9 U (.move rfl<|.shr rfl rfl (by decide) (r:=u / 128) (by rw[show(2:Int) ^ min (7:Int).toNat IntKind.u64.bits=128 from by decide];exact Int.fdiv_eq_ediv_of_nonneg _ (by decide))<|.assign rfl .nil) fun Y U =>?_
   refine wpList_nil ?_
   show ∃ n',n'<_∧_
   exact⟨(u / 128).toNat,by omega,j+1,u / 128,_,_,_,hj8,by omega,hu2,rfl,by simp;omega,oT hbb2 hzb,U.only [0,3,4,5],ak.only [9]⟩
  intro aa U;try simp only [QQ,Qax] at aa
  refine wcf U ?_
  refine wp_exit ?_
  refine hK4 _ _ ?_
  refine wp_region_lit ?_
  refine k9 U (.move rfl<|.move rfl<|.conv rfl nb U5 rfl .nil) fun Y U =>?_
  refine plz (lj U ag 200 (k:=.u8) rfl rfl U22 lJ rfl rfl rfl rfl fun aw Y ax U ai =>?_)
  refine plz (lE U ai 9 rfl rfl rfl (ai.numsO (i:=200) rfl) U22 lJ (by decide) (by simp;omega) rfl fun ay az Y aA U al =>?_)
  refine gz hK2 U (.assign rfl .nil) fun Y U =>?_
  replace U:=U.oz [0,3,4,5]
  refine wp_region_lit ?_
  refine k9 U (.move rfl<|.inc (k+1)<|.assign rfl .nil) fun Y U =>?_
  refine wpList_nil ?_
  show ∃ n',n'<_∧_
  exact⟨xs.length - (k+1),by omega,k+1,_,_,_,by omega,rfl,by simp;omega,oT hbb2 (rI _),U.only [0,3,4],al.only [9]⟩
 intro hb9 U;try simp only [QQ,Qax] at hb9
 revert U
 obtain rfl:k=xs.length:=by omega
 intro U
 refine wcf U ?_
 refine wp_exit ?_
 refine hK0 _ _ ?_
 refine la U (.move rfl<|.assign rfl .nil) fun Y U =>?_
 refine rt1 U ?_
 exact⟨_,_,_,rfl,hbl,hbb,m4.ok 9 _ rfl,m4.below⟩
theorem sv(xs:List Int)(q:Option Addr)(cq:Nat)(w0:World)(h0:Rd (fun _=>True) w0 (.slice q xs.length cq) (.ns .i64 xs))(hl:xs.length≤1000000) :
   Calls Tryz.prog 105 #[.slice q xs.length cq] w0 fun e w' => ∃ (b:List Int) (p:Option Addr) (c:Nat),e=.returned (.slice p b.length c)∧b.length≤10*xs.length∧lg b∧w'.ownsRow w0.heap.size 5 1 (.slice p b.length c) b.length (b.map (Value.int .u8))∧Below w0.heap.size w0 w':=by
 refine mp Tryz.func105 rfl Tryz.ntmps105 fun Y U =>?_
 have m0:=MemOk.start (fun _=>False) w0
 refine la U (.assign rfl .nil) fun Y U =>?_
 refine la U (.assign rfl .nil) fun Y U =>?_
 refine wsk fun K0 hK0 =>?_
 refine la U (.assign rfl .nil) fun Y U =>?_
 refine wp_block ?_
 refine wp_loop_ghost (fun g a w => ∃ (k:Nat) (b:List Int) (p:Option Addr) (c:Nat),k≤xs.length∧g=xs.length - k∧b.length≤10*k∧lg b∧Has 21 [(0,.slice q xs.length cq),(3,.slice p b.length c),(4,.int .i64 k)] a∧MemOk (cn w0) w0 [(9,.num (.slice p b.length c) 5 .u8 b)] w) (xs.length) ?_ ?_
 · have mz:=m0.nilN 9 5 .u8
   exact⟨0,[],_,_,Nat.zero_le _,rfl,by simp,(fun _ h=>by cases h),U.only [0,3,4],mz.only [9]⟩
 clear U m0
 rintro g Y w4 ⟨k,b,p,c,hkl,hg,hbl,hbb,U,m4⟩
 refine wsk fun K1 hK1 =>?_
 refine la U (.move rfl<|.move rfl<|.len rfl U32<|.lss rfl rfl .nil) fun Y U =>?_
 refine bc U 8 ?_ ?_
 ·
  intro hb9 U;try simp only [QQ,Qax] at hb9
  have hk:k<xs.length:=by omega
  refine wct U ?_
  refine zss (hK1 _ _ ?_)
  refine wsk fun K2 hK2 =>?_
  refine wp_block ?_
  refine wp_region_lit ?_
  refine k9 U (.move rfl<|.move rfl<|.move rfl .nil) fun Y U =>?_
  obtain⟨ah,ai,ab,aj,aa⟩:=h0.extN (k) hk
  revert U
  cases ab
  intro U
  refine k9 U (.c rfl (fun _ h_=>li h_ rfl rfl U32 l3 (k) rfl hk)<|.loadAt1 (aa m4 rfl) (q:=0) rfl rfl rfl U2 rfl<|.conv rfl U2 nb rfl .nil) fun Y U =>?_
  refine plz (lj U m4 100 (k:=.u64) rfl rfl tZ qS rfl rfl rfl rfl fun ao Y ap U ak =>?_)
  have ae:=ak.freezeN 100 rfl
  refine plz (ecl U Tryz.func88 rfl (qL [IntKind.u64.wrap (xs.getD k 0)] _ _ _ ((ae.rd (i:=100) rfl).any) (by simp) (yZ _)) ?_)
  rintro e aq ⟨d1,ar,au,rfl,hld1,hbd1,ac,ad⟩
  have ag:=ae.newN 101 ad ac
  refine⟨_,rfl,?_⟩;intro Y U
  refine plz (lE U ag 9 rfl rfl rfl (ag.numsO (i:=101) rfl) U22 lJ (by decide) (by simp at hld1 ⊢;omega) rfl fun av aw Y ax U al =>?_)
  refine gz hK2 U (.assign rfl .nil) fun Y U =>?_
  replace U:=U.oz [0,3,4]
  refine wp_region_lit ?_
  refine k9 U (.move rfl<|.inc (k+1)<|.assign rfl .nil) fun Y U =>?_
  refine wpList_nil ?_
  show ∃ n',n'<_∧_
  exact⟨xs.length - (k+1),by omega,k+1,_,_,_,by omega,rfl,by simp at hld1 ⊢;omega,mE hbb hbd1,U.only [0,3,4],al.only [9]⟩
 intro hb9 U;try simp only [QQ,Qax] at hb9
 revert U
 obtain rfl:k=xs.length:=by omega
 intro U
 refine wcf U ?_
 refine wp_exit ?_
 refine hK0 _ _ ?_
 refine la U (.move rfl<|.assign rfl .nil) fun Y U =>?_
 refine rt1 U ?_
 exact⟨_,_,_,rfl,hbl,hbb,m4.ok 9 _ rfl,m4.below⟩
theorem vd(xs:List Int)(q:Option Addr)(cq:Nat)(w0:World)(h0:Rd (fun _=>True) w0 (.slice q xs.length cq) (.ns .i64 xs))(hl:xs.length≤1000000) :
   Calls Tryz.prog 42 #[.slice q xs.length cq] w0 fun e w' => ∃ (b:List Int) (p:Option Addr) (c:Nat),e=.returned (.slice p b.length c)∧b.length≤10*xs.length∧lg b∧w'.ownsRow w0.heap.size 5 1 (.slice p b.length c) b.length (b.map (Value.int .u8))∧Below w0.heap.size w0 w':=by
 refine mp Tryz.func42 rfl Tryz.ntmps42 fun Y U =>?_
 have m0:=MemOk.start (fun _=>False) w0
 refine la U (.assign rfl .nil) fun Y U =>?_
 refine la U (.assign rfl .nil) fun Y U =>?_
 refine wsk fun K0 hK0 =>?_
 refine la U (.assign rfl .nil) fun Y U =>?_
 refine wp_block ?_
 refine wp_loop_ghost (fun g a w => ∃ (k:Nat) (b:List Int) (p:Option Addr) (c:Nat),k≤xs.length∧g=xs.length - k∧b.length≤10*k∧lg b∧Has 21 [(0,.slice q xs.length cq),(3,.slice p b.length c),(4,.int .i64 k)] a∧MemOk (cn w0) w0 [(9,.num (.slice p b.length c) 5 .u8 b)] w) (xs.length) ?_ ?_
 · have mz:=m0.nilN 9 5 .u8
   exact⟨0,[],_,_,Nat.zero_le _,rfl,by simp,(fun _ h=>by cases h),U.only [0,3,4],mz.only [9]⟩
 clear U m0
 rintro g Y w4 ⟨k,b,p,c,hkl,hg,hbl,hbb,U,m4⟩
 refine wsk fun K1 hK1 =>?_
 refine la U (.move rfl<|.move rfl<|.len rfl U32<|.lss rfl rfl .nil) fun Y U =>?_
 refine bc U 8 ?_ ?_
 ·
  intro hb9 U;try simp only [QQ,Qax] at hb9
  have hk:k<xs.length:=by omega
  refine wct U ?_
  refine zss (hK1 _ _ ?_)
  refine wsk fun K2 hK2 =>?_
  refine wp_block ?_
  refine wp_region_lit ?_
  refine k9 U (.move rfl<|.move rfl<|.move rfl .nil) fun Y U =>?_
  obtain⟨ah,ai,ab,aj,aa⟩:=h0.extN (k) hk
  revert U
  cases ab
  intro U
  refine k9 U (.c rfl (fun _ h_=>li h_ rfl rfl U32 l3 (k) rfl hk)<|.loadAt1 (aa m4 rfl) (q:=0) rfl rfl rfl U2 rfl<|.conv rfl U2 nb rfl .nil) fun Y U =>?_
  refine plz (lj U m4 100 (k:=.u64) rfl rfl tZ qS rfl rfl rfl rfl fun ao Y ap U ak =>?_)
  have ae:=ak.freezeN 100 rfl
  refine plz (ecl U Tryz.func88 rfl (qL [IntKind.u64.wrap (xs.getD k 0)] _ _ _ ((ae.rd (i:=100) rfl).any) (by simp) (yZ _)) ?_)
  rintro e aq ⟨d1,ar,au,rfl,hld1,hbd1,ac,ad⟩
  have ag:=ae.newN 101 ad ac
  refine⟨_,rfl,?_⟩;intro Y U
  refine plz (lE U ag 9 rfl rfl rfl (ag.numsO (i:=101) rfl) U22 lJ (by decide) (by simp at hld1 ⊢;omega) rfl fun av aw Y ax U al =>?_)
  refine gz hK2 U (.assign rfl .nil) fun Y U =>?_
  replace U:=U.oz [0,3,4]
  refine wp_region_lit ?_
  refine k9 U (.move rfl<|.inc (k+1)<|.assign rfl .nil) fun Y U =>?_
  refine wpList_nil ?_
  show ∃ n',n'<_∧_
  exact⟨xs.length - (k+1),by omega,k+1,_,_,_,by omega,rfl,by simp at hld1 ⊢;omega,mE hbb hbd1,U.only [0,3,4],al.only [9]⟩
 intro hb9 U;try simp only [QQ,Qax] at hb9
 revert U
 obtain rfl:k=xs.length:=by omega
 intro U
 refine wcf U ?_
 refine wp_exit ?_
 refine hK0 _ _ ?_
 refine la U (.move rfl<|.assign rfl .nil) fun Y U =>?_
 refine rt1 U ?_
 exact⟨_,_,_,rfl,hbl,hbb,m4.ok 9 _ rfl,m4.below⟩
theorem AC(xs:List Int)(q:Option Addr)(cq:Nat)(w0:World)(h0:Rd (fun _=>True) w0 (.slice q xs.length cq) (.ns .u8 xs))(hl:xs.length≤1000000)(hxb:lg xs) :
   Calls Tryz.prog 66 #[.slice q xs.length cq] w0 fun e w' => ∃ (b:List Int) (p:Option Addr) (c:Nat),e=.returned (.slice p b.length c)∧b.length≤10+xs.length∧lg b∧w'.ownsRow w0.heap.size 5 1 (.slice p b.length c) b.length (b.map (Value.int .u8))∧Below w0.heap.size w0 w':=by
 refine mp Tryz.func66 rfl Tryz.ntmps66 fun Y U =>?_
 have m0:=MemOk.start (fun _=>False) w0
 refine la U (.assign rfl .nil) fun Y U =>?_
 refine zsr fun K0 hK0 =>?_
 refine k9 U (.move rfl<|.len rfl U22<|.conv rfl U3 nb rfl .nil) fun Y U =>?_
 refine plz (lj U m0 20 (k:=.u64) rfl rfl tZ qS rfl rfl rfl rfl fun g8 Y w9 U m9 =>?_)
 have ac:=m9.freezeN 20 rfl
 refine plz (ecl U Tryz.func88 rfl (qL [IntKind.u64.wrap ((xs.length:Int))] _ _ _ ((ac.rd (i:=20) rfl).any) (by simp) (yZ _)) ?_)
 rintro e ag ⟨d1,ah,ai,rfl,hld1,hbd1,aa,ab⟩
 have ad:=ac.newN 21 ab aa
 refine⟨_,rfl,?_⟩;intro Y U
 refine k9 U (.move rfl .nil) fun Y U =>?_
 refine plz (lE U ad 21 rfl rfl rfl (h0.now' ad rfl).ns_out.nums U22 lJ (by decide) (by simp at hld1 ⊢;omega) rfl fun aj ak Y al U ae =>?_)
 refine gz hK0 U (.assign rfl .nil) fun Y U =>?_
 refine rt1 U ?_
 exact⟨_,_,_,rfl,(by simp at hld1 ⊢;omega),mE hbd1 hxb,ae.ok 21 _ rfl,ae.below⟩
end
end Go.Proofs.YteglmahnkfgelaaGreat.K
