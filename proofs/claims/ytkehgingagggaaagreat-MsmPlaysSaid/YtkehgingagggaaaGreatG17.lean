/- General laws of walks. -/
import Derived.Test.YtkehgingagggaaaGreatG16
import Derived.Test.YtkehgingagggaaaGreatG12
import Derived.Test.YtkehgingagggaaaGreatG14
import Derived.Test.YtkehgingagggaaaGreatG9
import Derived.Test.YtkehgingagggaaaGreatG6
namespace Go.Proofs.YtkehgingagggaaaGreat.K
open Go.ChangeShapes Go.WideShapes Go.ChangeAt Go.RowKit
set_option linter.unusedVariables false
set_option linter.unusedSimpArgs false
set_option maxRecDepth 100000
set_option maxHeartbeats 4000000
set_option autoImplicit true
set_option relaxedAutoImplicit true
section
theorem vX:iO Tryz.prog 59 [.int .i64 0,.slice none 0 0]=true:=by kernel_rfl
theorem XL.bad{A:Type}{f:A→List Int}{ok:A→Prop}{b b1 b2 b3:List Int}{er e1 e2 e3 un:Int}{l l2:List A}{v:A}(h:XL f ok N b er un l b1 e1)(hk:(l.length:Int)<un)(g:∀ x,ok x→XE b1 e1 (f x) (v=x) b2 e2)(hn:e2≠0):∀ z:List A,z.length≤N→(∀ y∈z,ok y)→XE b er (enc z.length++z.flatMap f) (l2=z) b3 e3:=fun z hz ho T h0 hb=>by
 obtain⟨_,r,_,_,h4⟩:=(h.step hk g) z hz ho T h0 (by rw[hb,List.append_assoc])
 exact absurd h4 hn
theorem lV(X B)(b:List Int)(er mx p)(c:Nat)(w0)(hb:b.length≤1000000)(hbb:BytesL b)(m0:MemOk X w0 [(1,.box B 148 [.slice p (b).length c,.int .i64 er]),(2,.dat (.slice p (b).length c) (.ns .u8 (b)))] w0)(hmx:0≤mx:=by decide)(hm2:mx≤18446744073709551615:=by first|decide|omega) :
   Calls Tryz.prog 60 #[.pointer (some ⟨B,0,none⟩),.int .u64 mx] w0 fun e w' => ∃ (x:Int) (b':List Int) (er':Int) (p':Option Addr) (c':Nat),e=.returned (.int .u64 x)∧(0≤x∧x≤mx)∧(∀ z,0≤z→z≤mx→XE b er (enc z) (x=z) b' er')∧RdN b er b' er'∧MemOk X w0 [(1,.box B 148 [.slice p' (b').length c',.int .i64 er']),(2,.dat (.slice p' (b').length c') (.ns .u8 (b')))] w':=
 (q6 X B b er mx p c w0 hb hbb m0).mono fun e w' ⟨p',c',he,hm⟩=>⟨_,_,_,p',c',he,oc b er mx hmx,rK hm2,ot b er mx hbb,hm⟩
theorem kB(X B)(b:List Int)(er p)(c:Nat)(w0)(hb:b.length≤1000000)(hbb:BytesL b)(m0:MemOk X w0 [(1,.box B 148 [.slice p (b).length c,.int .i64 er]),(2,.dat (.slice p (b).length c) (.ns .u8 (b)))] w0) :
   Calls Tryz.prog 73 #[.pointer (some ⟨B,0,none⟩)] w0 fun e w' => ∃ (x:Int) (b':List Int) (er':Int) (p':Option Addr) (c':Nat),e=.returned (.int .i64 x)∧(0≤x∧x≤1099511627776)∧(∀ z,0≤z→z≤1099511627776→XE b er (enc z) (x=z) b' er')∧RdN b er b' er'∧MemOk X w0 [(1,.box B 148 [.slice p' (b').length c',.int .i64 er']),(2,.dat (.slice p' (b').length c') (.ns .u8 (b')))] w':=by
 refine i9 Tryz.func73 rfl Tryz.ntmps73 fun Y U=>hC U (.assign rfl .nil) fun Y U=>zsr fun K0 hK0=>g9 U (.move rfl .nil) fun Y U=>plz (ecl U Tryz.func60 rfl (lV _ _ b er 1099511627776 _ _ _ hb hbb (m0.into [(1,1),(2,2)] (by decide) rfl)) ?_)
 rintro e w4 ⟨xq4,bq4,eq4,p4,c4,rfl,hxq4,hX4,hq4,hm4⟩
 have mx4:=m0.back hm4 [(1,1),(2,2)] (by decide);clear hm4 m0
 have m4:=mx4.oz [1,2]
 refine⟨_,rfl,?_⟩;intro Y U
 have hlq4:bq4.length≤1000000:=Nat.le_trans hq4.1 hb
 refine gz hK0 U (.conv rfl jV U3 (r:=xq4) (IntWalk.i64_in _ (by have:=hxq4;omega))<|.assign rfl<|.nil) fun Y U=>rt1 U ?_
 exact⟨_,_,_,_,_,rfl,hxq4,hX4,hq4,m4.only [1,2]⟩
theorem rI(X B)(b:List Int)(er p)(c:Nat)(w0)(hb:b.length≤1000000)(hbb:BytesL b)(m0:MemOk X w0 [(1,.box B 148 [.slice p (b).length c,.int .i64 er]),(2,.dat (.slice p (b).length c) (.ns .u8 (b)))] w0) :
   Calls Tryz.prog 74 #[.pointer (some ⟨B,0,none⟩)] w0 fun e w' => ∃ (x:Int) (b':List Int) (er':Int) (p':Option Addr) (c':Nat),e=.returned (.int .i64 x)∧(0≤x∧x≤1099511627776)∧(∀ z,0≤z→z≤1099511627776→XE b er (enc z) (x=z) b' er')∧RdN b er b' er'∧MemOk X w0 [(1,.box B 148 [.slice p' (b').length c',.int .i64 er']),(2,.dat (.slice p' (b').length c') (.ns .u8 (b')))] w':=by
 refine i9 Tryz.func74 rfl Tryz.ntmps74 fun Y U=>hC U (.assign rfl .nil) fun Y U=>zsr fun K0 hK0=>g9 U (.move rfl .nil) fun Y U=>plz (ecl U Tryz.func73 rfl (kB _ _ b er _ _ _ hb hbb (m0.into [(1,1),(2,2)] (by decide) rfl)) ?_)
 rintro e w4 ⟨xq4,bq4,eq4,p4,c4,rfl,hxq4,hX4,hq4,hm4⟩
 have mx4:=m0.back hm4 [(1,1),(2,2)] (by decide);clear hm4 m0
 have m4:=mx4.oz [1,2]
 refine⟨_,rfl,?_⟩;intro Y U
 have hlq4:bq4.length≤1000000:=Nat.le_trans hq4.1 hb
 refine gz hK0 U (.assign rfl .nil) fun Y U=>rt1 U ?_
 exact⟨_,_,_,_,_,rfl,hxq4,hX4,hq4,m4.only [1,2]⟩
theorem xX(X B)(b:List Int)(er mx p)(c:Nat)(w0)(hb:b.length≤1000000)(hbb:BytesL b)(m0:MemOk X w0 [(1,.box B 148 [.slice p (b).length c,.int .i64 er]),(2,.dat (.slice p (b).length c) (.ns .u8 (b)))] w0)(hmx:0≤mx∧mx≤1000000:=by decide) :
   Calls Tryz.prog 140 #[.pointer (some ⟨B,0,none⟩),.int .i64 mx] w0 fun e w' => ∃ (d b':List Int) (er':Int) (p':Option Addr) (c':Nat) (p3:Option Addr) (c3:Nat),e=.returned (.slice p3 d.length c3)∧((d.length:Int)≤mx∧BytesL d)∧(∀ z:List Int,(z.length:Int)≤mx→XE b er (enc z.length++z) (d=z) b' er')∧RdN b er b' er'∧MemOk X w0 [(1,.box B 148 [.slice p' (b').length c',.int .i64 er']),(2,.dat (.slice p' (b').length c') (.ns .u8 (b'))),(3,.dat (.slice p3 d.length c3) (.ns .u8 d))] w':=by
 refine iZ Tryz.func140 rfl Tryz.ntmps140 fun Y U=>hC U (.assign rfl .nil) fun Y U=>zsr fun K0 hK0=>g9 U (.move rfl<|.move rfl<|.c rfl (fun _ h_=>sr h_ rfl rfl (r:=mx) (by omega))<|.conv rfl U3 jV (r:=mx) (IntWalk.u64_in _ (by omega)) .nil) fun Y U=>plz (ecl U Tryz.func60 rfl (lV _ _ b er mx _ _ _ hb hbb (m0.into [(1,1),(2,2)] (by decide) rfl) hmx.1) ?_)
 rintro e aC ⟨ai,aa,al,aD,aE,rfl,aq,ae,ac,aj⟩
 have ao:=m0.back aj [(1,1),(2,2)] (by decide);clear aj m0
 have ad:=ao.oz [1,2]
 refine⟨_,rfl,?_⟩;intro Y U
 have ar:aa.length≤1000000:=Nat.le_trans ac.1 hb
 revert U
 obtain⟨un,rfl⟩:∃ un:Nat,ai=(un:Int):=⟨ai.toNat,by omega⟩
 intro U
 refine gz hK0 U (.assign rfl .nil) fun Y U=>wsk fun K1 hK1 =>?_
 replace U:=U.oz [0,4,5]
 refine hC U (.move rfl<|.nilCheck rfl<|.fieldAddr (off:=0) rfl nU rfl (s:=1) (by kernel_rfl) rfl<|.fa 1 rfl l7<|.lb ad 1 U42 rfl rfl rfl<|.neq rfl rfl .nil) fun Y U=>bc U 17 ?_ ?_
 ·
  intro ag U;try simp only [QQ,Qax] at ag
  have hne9:al≠0:=by omega
  refine wct U ?_
  replace U:=U.oz [0,4,5]
  refine hC U (.assign rfl .nil) fun Y U=>rt1 U ?_
  have mA:=ad.dat 92 rfl (Rd.nilN _ _ .u8 none)
  exact⟨[],_,_,_,_,_,_,rfl,⟨by simp;omega,(fun x h=>by cases h)⟩,pG ae hne9,ac,mA.ren [(1,1),(2,2),(3,92)] (by decide)⟩
 intro ag U;try simp only [QQ,Qax] at ag
 refine wcf U<|zss<|hK1 _ _<|wsk fun K2 hK2 =>?_
 replace U:=U.oz [0,4,5]
 refine hC U (.move rfl<|.move rfl<|.nilCheck rfl<|.fieldAddr (off:=0) rfl nU rfl (s:=1) (by kernel_rfl) rfl<|.fa 0 rfl l7<|.lb ad 1 U22 rfl rfl rfl<|.len rfl U22<|.conv rfl U3 jV (IntWalk.u64_in _ (by omega))<|.gtr rfl rfl .nil) fun Y U=>bc U 26 ?_ ?_
 ·
  intro ab U;try simp only [QQ,Qax] at ab
  have hsh9:(aa.length:Int)<un:=by have:=ab;first|omega|(simp at this;omega)
  refine wct U ?_
  replace U:=U.oz [0,4,5]
  refine zsr fun K3 hK3=>g9 U (.move rfl<|.nilCheck rfl<|.fieldAddr (off:=0) rfl nU rfl (s:=1) (by kernel_rfl) rfl .nil) fun Y U=>plz (ecl U Tryz.func107 rfl (oC _ _ _ _ _ _ (ad.into [(1,1)] (by decide) rfl)) ?_)
  rintro e aF ⟨rfl,ak⟩
  have ap:=ad.back ak [(1,1)] (by decide);clear ak ad
  have ay:=ap.oz [1,2]
  refine⟨_,rfl,?_⟩;intro Y U
  refine znl<|hK3 _ _<|hC U (.assign rfl .nil) fun Y U=>rt1 U ?_
  have mA:=ay.dat 92 rfl (Rd.nilN _ _ .u8 none)
  have mB:=mA.dat 91 rfl (Rd.nilN _ _ .u8 none)
  exact⟨[],[],21,_,_,_,_,rfl,⟨by simp;omega,(fun x h=>by cases h)⟩,mD ae hsh9,nl (by decide),mB.ren [(1,1),(2,91),(3,92)] (by decide)⟩
 intro ab U;try simp only [QQ,Qax] at ab
 have hun2:un≤aa.length:=by have:=ab;first|omega|(simp at this;omega)
 refine wcf U<|zss (hK2 _ _ ?_)
 replace U:=U.oz [0,4,5]
 refine zsr fun K4 hK4=>g9 U (.move rfl<|.nilCheck rfl<|.fieldAddr (off:=0) rfl nU rfl (s:=1) (by kernel_rfl) rfl<|.fa 0 rfl l7<|.lb ad 1 U22 rfl rfl rfl<|.move rfl .nil) fun Y U =>?_
 have ah:=(ad.rd (i:=2) rfl).ns_out.cap
 have au:=ad.takeN (i:=2) rfl un hun2 20 rfl
 refine g9 U (.c rfl (fun _ h_=>ji h_ un rfl rfl U22 jw rfl (Nat.le_trans hun2 ah.1)) .nil) fun Y U=>plz (iN U au 21 (mm:=1) rfl (.cons rfl rfl (.cons (au.rd (i:=20) rfl) .nil) .nil) U23 mS rfl rfl rfl rfl rfl fun aG Y aH U az =>?_)
 have av:=az.freezeR 21 rfl
 refine plz<|ecn U Tryz.func68 rfl av 22 (j5 (ls:=[aa.take un]) (S:=aa.take un) ((av.rd (i:=21) rfl).any) (by simp) (by simp [i4];omega) (by simp)) fun aI aJ Y aK U aw=>gz hK4 U (.assign rfl .nil) fun Y U =>?_
 replace U:=U.oz [0,4,5,6]
 refine zsr fun K5 hK5=>g9 U (.move rfl<|.move rfl<|.nilCheck rfl<|.fieldAddr (off:=0) rfl nU rfl (s:=1) (by kernel_rfl) rfl<|.fa 0 rfl l7<|.lb aw 1 U22 rfl rfl rfl<|.move rfl .nil) fun Y U =>?_
 have aA:=aw.dropN (i:=2) rfl un hun2 23 rfl
 refine g9 U (.c rfl (fun _ h_=>iK h_ un rfl rfl U22 jw rfl hun2)<|.nilCheck rfl<|.fieldAddr (off:=0) rfl nU rfl (s:=1) (by kernel_rfl) rfl<|.fa 0 rfl l7 .nil) fun Y U=>plz (st1 U aA 1 nZ fun aL aB _ =>?_)
 refine znl (hK5 _ _ ?_)
 replace U:=U.oz [4,6]
 refine hC U (.move rfl<|.assign rfl .nil) fun Y U=>rt1 U ?_
 have ax:=aB.freezeN 22 rfl
 have e3:aa.length - un=(aa.drop un).length:=by rw[List.length_drop]
 rw[e3] at ax
 have e4:(aa.take un).length=un:=by rw[List.length_take];omega
 exact⟨aa.take un,aa.drop un,_,_,_,_,_,rfl,⟨by rw[e4];omega,fun x h=>ac.2.1 x (List.mem_of_mem_take h)⟩,pH ae rfl,ac.drop un,ax.ren [(1,1),(2,23),(3,22)] (by decide)⟩
theorem qd(X B)(b:List Int)(er p)(c:Nat)(w0)(hb:b.length≤1000000)(hbb:BytesL b)(m0:MemOk X w0 [(1,.box B 148 [.slice p (b).length c,.int .i64 er]),(2,.dat (.slice p (b).length c) (.ns .u8 (b)))] w0) :
   Calls Tryz.prog 119 #[.pointer (some ⟨B,0,none⟩)] w0 fun e w' => ∃ (x:Int) (d b':List Int) (er':Int) (p':Option Addr) (c':Nat) (p3:Option Addr) (c3:Nat),e=.returned (.agg #[.int .i64 x,.slice p3 d.length c3])∧(0≤x∧x≤1099511627776)∧((d.length:Int)≤32∧BytesL d)∧(∀ z:Int×List Int,(fun e:Int×List Int=>(0≤e.1∧e.1≤1099511627776)∧(e.2.length:Int)≤32) z→XE b er (j6 z) ((x,d)=z) b' er')∧RdN b er b' er'∧MemOk X w0 [(1,.box B 148 [.slice p' (b').length c',.int .i64 er']),(2,.dat (.slice p' (b').length c') (.ns .u8 (b'))),(3,.dat (.slice p3 d.length c3) (.ns .u8 d))] w':=by
 refine i9 Tryz.func119 rfl Tryz.ntmps119 fun Y U=>zsr fun K0 hK0=>plz<|hZ U m0 20 qJ rfl fun g1 Y w2 U m2 _ _=>znl<|hK0 _ _<|zsr fun K1 hK1=>g9 U (.move rfl .nil) fun Y U=>plz (ecl U Tryz.func73 rfl (kB _ _ b er _ _ _ hb hbb (m2.into [(1,1),(2,2)] (by decide) rfl)) ?_)
 rintro e w5 ⟨xq5,bq5,eq5,p5,c5,rfl,hxq5,hX5,hq5,hm5⟩
 have mx5:=m2.back hm5 [(1,1),(2,2)] (by decide);clear hm5 m2
 have m5:=mx5.oz [1,2,20]
 refine⟨_,rfl,?_⟩;intro Y U
 have hlq5:bq5.length≤1000000:=Nat.le_trans hq5.1 hb
 refine g9 U (.move rfl .nil) fun Y U=>plz (ecl U Tryz.func140 rfl (xX _ _ bq5 eq5 32 _ _ _ hlq5 hq5.2.1 (m5.into [(1,1),(2,2)] (by decide) rfl)) ?_)
 rintro e w8 ⟨dq8,bq8,eq8,p8,c8,ab,ac,rfl,hdq8,hX8,hq8,hm8⟩
 have mx8:=m5.back hm8 [(1,1),(2,2),(21,3)] (by decide);clear hm8 m5
 have m8:=mx8.oz [1,2,21,20]
 refine⟨_,rfl,?_⟩;intro Y U
 have hlq8:bq8.length≤1000000:=Nat.le_trans hq8.1 hlq5
 refine g9 U (.build rfl qJ vX rfl (by dsimp only [iY,List.set] <;> rfl) .nil) fun Y U=>plz (stw U m8 20 jA fun ad aa _ =>?_)
 refine znl<|hK1 _ _<|rtd (kG (fn:=Tryz.f119) U aa (i:=20) rfl rfl rfl U59 rfl jA ?_)
 exact⟨xq5,dq8,_,_,_,_,_,_,rfl,hxq5,hdq8,(fun z hz=>((hX5 z.1 hz.1.1 hz.1.2).tr (hX8 z.2 hz.2)).mono (fun h=>Prod.ext h.1 h.2)),hq5.tr hq8,aa.ren [(1,1),(2,2),(3,21)] (by decide)⟩
theorem rJ(X B)(b:List Int)(er p)(c:Nat)(w0)(hb:b.length≤1000000)(hbb:BytesL b)(m0:MemOk X w0 [(1,.box B 148 [.slice p (b).length c,.int .i64 er]),(2,.dat (.slice p (b).length c) (.ns .u8 (b)))] w0) :
   Calls Tryz.prog 75 #[.pointer (some ⟨B,0,none⟩),.func (.func 73) #[] #[]] w0 fun e w' => ∃ (l b':List Int) (er':Int) (p':Option Addr) (c':Nat) (p3:Option Addr) (c3:Nat),e=.returned (.slice p3 l.length c3)∧l.length≤b.length∧(∀ z∈l,0≤z∧z≤1099511627776)∧(∀ z:List Int,z.length≤2147483648→(∀ y∈z,(fun y:Int=>0≤y∧y≤1099511627776) y)→XE b er (enc z.length++z.flatMap enc) (l=z) b' er')∧RdN b er b' er'∧MemOk X w0 [(1,.box B 148 [.slice p' (b').length c',.int .i64 er']),(2,.dat (.slice p' (b').length c') (.ns .u8 (b'))),(3,.dat (.slice p3 l.length c3) (.ns .i64 l))] w':=by
 refine iZ Tryz.func75 rfl Tryz.ntmps75 fun Y U=>hC U (.assign rfl .nil) fun Y U=>hC U (.assign rfl .nil) fun Y U=>wsk fun K0 hK0=>zsr fun K1 hK1=>g9 U (.move rfl .nil) fun Y U=>plz (ecl U Tryz.func60 rfl (lV _ _ b er 1099511627776 _ _ _ hb hbb (m0.into [(1,1),(2,2)] (by decide) rfl)) ?_)
 rintro e w5 ⟨xq5,bq5,eq5,p5,c5,rfl,hxq5,hX5,hq5,hm5⟩
 have mx5:=m0.back hm5 [(1,1),(2,2)] (by decide);clear hm5 m0
 have m5:=mx5.oz [1,2]
 refine⟨_,rfl,?_⟩;intro Y U
 have hlq5:bq5.length≤1000000:=Nat.le_trans hq5.1 hb
 refine gz hK1 U (.move rfl .nil) fun Y U=>wp_block<|wp_loop_ghost (fun g a w => ∃ (k:Nat) (b1:List Int) (e1:Int) (l:List Int) (p1:Option Addr) (c1:Nat) (p3:Option Addr) (c3:Nat),l.length=k∧XL enc (fun y:Int=>0≤y∧y≤1099511627776) 2147483648 b er xq5 l b1 e1∧(k:Int)≤xq5∧l.length+b1.length≤b.length∧RdN b er b1 e1∧(∀ z∈l,0≤z∧z≤1099511627776)∧g=b1.length∧Has 23 [(0,.pointer (some ⟨B,0,none⟩)),(1,.func (.func 73) #[] #[]),(5,.slice p3 l.length c3),(8,.int .u64 xq5),(9,.int .u64 (k:Int))] a∧MemOk X w0 [(1,.box B 148 [.slice p1 (b1).length c1,.int .i64 e1]),(2,.dat (.slice p1 (b1).length c1) (.ns .u8 (b1))),(7,.num (.slice p3 l.length c3) 3 .i64 l)] w) (bq5.length) ?_ ?_
 · have mz:=m5.nilN 7 3 .i64
   exact⟨0,bq5,_,[],_,_,_,_,rfl,XL.start hX5,by omega,by simp;exact hq5.1,hq5,(fun z h=>by cases h),rfl,U.only [0,1,5,8,9],mz.ren [(1,1),(2,2),(7,7)] (by decide)⟩
 clear U m5
 rintro g Y w8 ⟨k,b1,e1,l,p1,c1,p3,c3,hlk,hxl,hkl,hlb,hR1,hall,hg,U,m8⟩
 refine hC U (.lss rfl rfl .nil) fun Y U=>wsk fun K2 hK2=>bc U 10 ?_ ?_
 ·
  intro ad U;try simp only [QQ,Qax] at ad
  have hk:(k:Int)<xq5:=by omega
  have hb1:b1.length≤1000000:=Nat.le_trans hR1.1 hb
  have hbb1:=hR1.2.1
  have h1le:=hR1.1
  refine wct U<|zss<|hK2 _ _<|wsk fun K3 hK3=>wp_block<|zsr fun K4 hK4=>g9 U (.move rfl<|.move rfl .nil) fun Y U=>plz (kE U rfl Tryz.func73 rfl rfl rfl rfl (kB _ _ b1 _ _ _ _ hb1 hbb1 (m8.into [(1,1),(2,2)] (by decide) rfl)) ?_)
  rintro e az ⟨av,ab,aj,aA,aB,rfl,ae,ag,ac,ah⟩
  have ak:=m8.back ah [(1,1),(2,2)] (by decide);clear ah m8
  have al:=ak.oz [1,2,7]
  refine⟨_,rfl,?_⟩;intro Y U
  have ap:ab.length≤1000000:=Nat.le_trans ac.1 hb1
  refine gz hK4 U (.assign rfl .nil) fun Y U=>wsk fun K5 hK5=>zsr fun K6 hK6=>g9 U (.move rfl .nil) fun Y U=>plz (ecl U Tryz.func62 rfl (lQ _ _ _ _ _ _ _ (al.into [(1,1),(2,2)] (by decide) rfl)) ?_)
  rintro e aC ⟨rfl,ai⟩
  have ao:=al.back ai [(1,1),(2,2)] (by decide);clear ai al
  have aq:=ao.oz [1,2,7]
  refine⟨_,rfl,?_⟩;intro Y U
  refine gz hK6 U (.neq rfl rfl .nil) fun Y U=>bc U 16 ?_ ?_
  ·
   intro aa U;try simp only [QQ,Qax] at aa
   have hne9:aj≠0:=by have:=aa;first|omega|(simp at this;omega)
   refine wct U<|wp_exit<|hK0 _ _ ?_
   replace U:=U.oz [0,1,5,8,9]
   refine hC U (.move rfl<|.assign rfl .nil) fun Y U=>rt1 U ?_
   have aw:=aq.freezeN 7 rfl
   exact⟨_,_,_,_,_,_,_,rfl,by have:=hR1.1;omega,hall,hxl.bad (by omega) (fun x hx=>ag x hx.1 hx.2) hne9,(hR1.tr ac),aw.ren [(1,1),(2,2),(3,7)] (by decide)⟩
  intro aa U;try simp only [QQ,Qax] at aa
  have ar:ab.length<b1.length:=(ac.2.2 (by have:=aa;first|omega|(simp at this;omega))).2
  refine wcf U<|zss (hK5 _ _ ?_)
  replace U:=U.oz [0,1,5,8,9,6]
  refine wp_region_lit<|g9 U (.move rfl<|.move rfl .nil) fun Y U=>plz<|iv U aq 100 (k:=.i64) rfl rfl U35 jI rfl rfl rfl rfl fun aD Y aE U au=>plz<|iC U au 7 rfl rfl rfl (au.numsO (i:=100) rfl) U35 jI (by decide) (by simp;omega) rfl fun aF aG Y aH U ax=>gz hK3 U (.assign rfl .nil) fun Y U=>wp_region_lit<|g9 U (.add rfl rfl (r:=((k+1:Nat):Int)) (by rw[IntWalk.u64_in _ (by omega)];omega)<|.move rfl .nil) fun Y U=>wpList_nil ?_
  show ∃ n',n'<_∧_
  exact⟨ab.length,by omega,k+1,ab,_,_,_,_,_,_,by rw[List.length_append,hlk];rfl,hxl.step (by omega) (fun x hx=>ag x hx.1 hx.2),by omega,by rw[List.length_append,List.length_singleton];omega,hR1.tr ac,mE hall ae,rfl,U.only [0,1,5,8,9],ax.ren [(1,1),(2,2),(7,7)] (by decide)⟩
 intro ad U;try simp only [QQ,Qax] at ad
 have hnk:¬ ((l.length:Int)<xq5∧e1=0):=by omega
 refine wcf U<|wp_exit<|hK0 _ _<|hC U (.move rfl<|.assign rfl .nil) fun Y U=>rt1 U ?_
 have ay:=m8.freezeN 7 rfl
 exact⟨_,_,_,_,_,_,_,rfl,by have:=hR1.1;omega,hall,hxl.fin hnk,hR1,ay.ren [(1,1),(2,2),(3,7)] (by decide)⟩
theorem vY(X B)(b:List Int)(er p)(c:Nat)(w0)(hb:b.length≤1000000)(hbb:BytesL b)(m0:MemOk X w0 [(1,.box B 148 [.slice p (b).length c,.int .i64 er]),(2,.dat (.slice p (b).length c) (.ns .u8 (b)))] w0) :
   Calls Tryz.prog 118 #[.pointer (some ⟨B,0,none⟩),.func (.func 119) #[] #[]] w0 fun e w' => ∃ (l:List (Int×List Int)) (b':List Int) (er':Int) (p':Option Addr) (c':Nat) (p3:Option Addr) (c3:Nat),e=.returned (.slice p3 (l.map itD).length c3)∧l.length≤b.length∧(∀ e∈l,(0≤e.1∧e.1≤1099511627776)∧e.2.length≤32∧BytesL e.2)∧(∀ z:List (Int×List Int),z.length≤2147483648→(∀ y∈z,(fun e:Int×List Int=>(0≤e.1∧e.1≤1099511627776)∧(e.2.length:Int)≤32) y)→XE b er (enc z.length++z.flatMap j6) (l=z) b' er')∧RdN b er b' er'∧MemOk X w0 [(1,.box B 148 [.slice p' (b').length c',.int .i64 er']),(2,.dat (.slice p' (b').length c') (.ns .u8 (b'))),(3,.dat (.slice p3 (l.map itD).length c3) (.l 2 (l.map itD)))] w':=by
 refine iZ Tryz.func118 rfl Tryz.ntmps118 fun Y U=>hC U (.assign rfl .nil) fun Y U=>hC U (.assign rfl .nil) fun Y U=>wsk fun K0 hK0=>zsr fun K1 hK1=>g9 U (.move rfl .nil) fun Y U=>plz (ecl U Tryz.func60 rfl (lV _ _ b er 1099511627776 _ _ _ hb hbb (m0.into [(1,1),(2,2)] (by decide) rfl)) ?_)
 rintro e w5 ⟨xq5,bq5,eq5,p5,c5,rfl,hxq5,hX5,hq5,hm5⟩
 have mx5:=m0.back hm5 [(1,1),(2,2)] (by decide);clear hm5 m0
 have m5:=mx5.oz [1,2]
 refine⟨_,rfl,?_⟩;intro Y U
 have hlq5:bq5.length≤1000000:=Nat.le_trans hq5.1 hb
 refine gz hK1 U (.move rfl .nil) fun Y U=>wp_block<|wp_loop_ghost (fun g a w => ∃ (k:Nat) (b1:List Int) (e1:Int) (l:List (Int×List Int)) (p1:Option Addr) (c1:Nat) (p3:Option Addr) (c3:Nat),l.length=k∧XL j6 (fun e:Int×List Int=>(0≤e.1∧e.1≤1099511627776)∧(e.2.length:Int)≤32) 2147483648 b er xq5 l b1 e1∧(k:Int)≤xq5∧l.length+b1.length≤b.length∧RdN b er b1 e1∧(∀ e∈l,(0≤e.1∧e.1≤1099511627776)∧e.2.length≤32∧BytesL e.2)∧g=b1.length∧Has 23 [(0,.pointer (some ⟨B,0,none⟩)),(1,.func (.func 119) #[] #[]),(5,.slice p3 (l.map itD).length c3),(8,.int .u64 xq5),(9,.int .u64 (k:Int))] a∧MemOk X w0 [(1,.box B 148 [.slice p1 (b1).length c1,.int .i64 e1]),(2,.dat (.slice p1 (b1).length c1) (.ns .u8 (b1))),(7,.row (.slice p3 (l.map itD).length c3) 59 2 (l.map itD))] w) (bq5.length) ?_ ?_
 · have mz:=m5.nilR 7 59 2
   exact⟨0,bq5,_,[],_,_,_,_,rfl,XL.start hX5,by omega,by simp;exact hq5.1,hq5,(fun z h=>by cases h),rfl,U.only [0,1,5,8,9],mz.ren [(1,1),(2,2),(7,7)] (by decide)⟩
 clear U m5
 rintro g Y w8 ⟨k,b1,e1,l,p1,c1,p3,c3,hlk,hxl,hkl,hlb,hR1,hall,hg,U,m8⟩
 refine hC U (.lss rfl rfl .nil) fun Y U=>wsk fun K2 hK2=>bc U 10 ?_ ?_
 ·
  intro ah U;try simp only [QQ,Qax] at ah
  have hk:(k:Int)<xq5:=by omega
  have hb1:b1.length≤1000000:=Nat.le_trans hR1.1 hb
  have hbb1:=hR1.2.1
  have h1le:=hR1.1
  refine wct U<|zss<|hK2 _ _<|wsk fun K3 hK3=>wp_block<|zsr fun K4 hK4=>g9 U (.move rfl<|.move rfl .nil) fun Y U=>plz (kE U rfl Tryz.func119 rfl rfl rfl rfl (qd _ _ b1 _ _ _ _ hb1 hbb1 (m8.into [(1,1),(2,2)] (by decide) rfl)) ?_)
  rintro e aG ⟨aa,ab,ad,ap,aH,aI,az,aA,rfl,ai,ag,aj,ae,ak⟩
  have aq:=m8.back ak [(1,1),(2,2),(100,3)] (by decide);clear ak m8
  have aB:=aq.oz [1,2,100,7]
  refine⟨_,rfl,?_⟩;intro Y U
  have av:ad.length≤1000000:=Nat.le_trans ae.1 hb1
  refine plz<|hZ U aB 101 qJ rfl fun aJ Y aK U aC _ _=>plz (stw U aC 101 jA fun aL ar _ =>?_)
  refine znl<|hK4 _ _<|wsk fun K5 hK5=>zsr fun K6 hK6=>g9 U (.move rfl .nil) fun Y U=>plz (ecl U Tryz.func62 rfl (lQ _ _ _ _ _ _ _ (ar.into [(1,1),(2,2)] (by decide) rfl)) ?_)
  rintro e aM ⟨rfl,al⟩
  have au:=ar.back al [(1,1),(2,2)] (by decide);clear al ar
  have ao:=au.oz [1,2,7,100,101]
  refine⟨_,rfl,?_⟩;intro Y U
  refine gz hK6 U (.neq rfl rfl .nil) fun Y U=>bc U 16 ?_ ?_
  ·
   intro ac U;try simp only [QQ,Qax] at ac
   have hne9:ap≠0:=by have:=ac;first|omega|(simp at this;omega)
   refine wct U<|wp_exit<|hK0 _ _ ?_
   replace U:=U.oz [0,1,5,8,9]
   refine hC U (.move rfl<|.assign rfl .nil) fun Y U=>rt1 U ?_
   have aD:=ao.freezeR 7 rfl
   exact⟨_,_,_,_,_,_,_,rfl,by have:=hR1.1;omega,hall,hxl.bad (by omega) (v:=(aa,ab)) (fun x hx=>aj x hx) hne9,(hR1.tr ae),aD.ren [(1,1),(2,2),(3,7)] (by decide)⟩
  intro ac U;try simp only [QQ,Qax] at ac
  have aw:ad.length<b1.length:=(ae.2.2 (by have:=ac;first|omega|(simp at this;omega))).2
  refine wcf U<|zss (hK5 _ _ ?_)
  replace U:=U.oz [0,1,5,8,9,6]
  refine wp_region_lit<|g9 U (.move rfl<|.loadBR ao (i:=101) rfl rfl U59 rfl jA (by simp) (by dsimp only [List.drop,List.take] <;> rfl) .nil) fun Y U=>plz (iN U ao 102 (mm:=2) rfl (.cons rfl rfl (.cons (.v _) (.cons (ao.rd (i:=100) rfl) .nil)) .nil) U36 si rfl rfl rfl rfl rfl fun aN Y aO U aE =>?_)
  have ax:=aE.freezeR 102 rfl
  refine plz<|iM U ax 7 rfl rfl rfl (ax.rd (i:=102) rfl) U36 si rfl rfl (by decide) (by simp;omega) rfl fun aP aQ Y aR U ay=>gz hK3 U (.assign rfl .nil) fun Y U=>wp_region_lit<|g9 U (.add rfl rfl (r:=((k+1:Nat):Int)) (by rw[IntWalk.u64_in _ (by omega)];omega)<|.move rfl .nil) fun Y U=>wpList_nil ?_
  show ∃ n',n'<_∧_
  have hE:l.map itD++[[.v (.int .i64 aa),.ns .u8 ab]]=(l++[(aa,ab)]).map itD:=by rw[List.map_append];rfl
  rw[hE] at ay U
  exact⟨ad.length,by omega,k+1,ad,_,_,_,_,_,_,by rw[List.length_append,hlk];rfl,hxl.step (by omega) (v:=(aa,ab)) (fun x hx=>aj x hx),by omega,by rw[List.length_append,List.length_singleton];omega,hR1.tr ae,mE (x:=(aa,ab)) hall ⟨ai,by have:=ag.1;dsimp only;omega,ag.2⟩,rfl,U.only [0,1,5,8,9],ay.ren [(1,1),(2,2),(7,7)] (by decide)⟩
 intro ah U;try simp only [QQ,Qax] at ah
 have hnk:¬ ((l.length:Int)<xq5∧e1=0):=by omega
 refine wcf U<|wp_exit<|hK0 _ _<|hC U (.move rfl<|.assign rfl .nil) fun Y U=>rt1 U ?_
 have aF:=m8.freezeR 7 rfl
 exact⟨_,_,_,_,_,_,_,rfl,by have:=hR1.1;omega,hall,hxl.fin hnk,hR1,aF.ren [(1,1),(2,2),(3,7)] (by decide)⟩
theorem lU(X B)(b:List Int)(er p)(c:Nat)(w0)(hb:b.length≤1000000)(hbb:BytesL b)(m0:MemOk X w0 [(1,.box B 148 [.slice p (b).length c,.int .i64 er]),(2,.dat (.slice p (b).length c) (.ns .u8 (b)))] w0) :
   Calls Tryz.prog 76 #[.pointer (some ⟨B,0,none⟩)] w0 fun e w' => ∃ (l:List (Int×List Int)) (b':List Int) (er':Int) (p':Option Addr) (c':Nat) (p3:Option Addr) (c3:Nat),e=.returned (.slice p3 (l.map itD).length c3)∧l.length≤b.length∧(∀ e∈l,(0≤e.1∧e.1≤1099511627776)∧e.2.length≤32∧BytesL e.2)∧(∀ z:List (Int×List Int),z.length≤2147483648→(∀ y∈z,(fun e:Int×List Int=>(0≤e.1∧e.1≤1099511627776)∧(e.2.length:Int)≤32) y)→XE b er (enc z.length++z.flatMap j6) (l=z) b' er')∧RdN b er b' er'∧MemOk X w0 [(1,.box B 148 [.slice p' (b').length c',.int .i64 er']),(2,.dat (.slice p' (b').length c') (.ns .u8 (b'))),(3,.dat (.slice p3 (l.map itD).length c3) (.l 2 (l.map itD)))] w':=by
 refine i9 Tryz.func76 rfl Tryz.ntmps76 fun Y U=>hC U (.assign rfl .nil) fun Y U=>zsr fun K0 hK0=>g9 U (.move rfl .nil) fun Y U=>plz (ecl U Tryz.func118 rfl (vY _ _ b er _ _ _ hb hbb (m0.into [(1,1),(2,2)] (by decide) rfl)) ?_)
 rintro e w4 ⟨l,b9,e9,p4,c4,aa,ab,rfl,hl9,hal,hXL,hRW,hm4⟩
 have mx4:=m0.back hm4 [(1,1),(2,2),(20,3)] (by decide);clear hm4 m0
 have m4:=mx4.oz [1,2,20]
 refine⟨_,rfl,?_⟩;intro Y U
 refine gz hK0 U (.assign rfl .nil) fun Y U=>rt1 U ?_
 exact⟨_,_,_,_,_,_,_,rfl,hl9,hal,hXL,hRW,m4.ren [(1,1),(2,2),(3,20)] (by decide)⟩
end
section

end
section

end
section
def WrsB(ws:List (Int×List (Int×List Int))):Prop:=∀ e∈ws,e.2.length≤8∧ItsB e.2
theorem WrsB.ok{ws:List (Int×List (Int×List Int))}(h:WrsB ws):kK ws:=fun e he=>⟨Nat.le_trans (h e he).1 (by decide),(h e he).2.ok⟩
theorem nI(vo bl sz pe to ne fl:Int)(hi)(place pins:List Int)(ws:List (Int×List (Int×List Int)))(pp pn pw:Option Addr)(cp cn9 cw:Nat)(nn)(w0:World)(h0:Rd (fun _=>True) w0 (.slice pp place.length cp) (.ns .i64 place))(h1:Rd (fun _=>True) w0 (.slice pn pins.length cn9) (.ns .i64 pins))(h2:Rd (fun _=>True) w0 (.slice pw nn cw) (.l 2 (ws.map wrD)))(hn:place.length≤1000000)(hp:pins.length≤1000000)(hl:ws.length≤1000000)(hwl:∀ e∈ws,e.2.length≤1000000) :
   Calls Tryz.prog 63 #[.agg #[.int .i64 vo,.int .i64 bl,.int .i64 sz,.int .i64 pe,.slice pp place.length cp,.int .i64 to,.int .i64 ne,.bool hi,.int .i64 fl,.slice pn pins.length cn9,.slice pw nn cw]] w0 fun e w' => ∃ b:Bool,e=.returned (.bool b)∧(b=true↔VolR vo bl sz pe to ne fl hi place pins ws)∧Below w0.heap.size w0 w':=by
 obtain rfl:nn=ws.length:=by obtain⟨pq,cq,hv,_⟩:=h2.l_shape;injection hv with _ e2 _;rw[List.length_map] at e2;exact e2
 exact qg vo bl sz pe to ne fl hi place pins ws pp pn pw cp cn9 cw w0 h0 h1 h2 hn hp hl hwl
end
section

end
section
theorem VolS.sm{x:VolV}(h:VolS n x):x.place.length≤256∧x.pins.length≤n∧x.ws.length≤n∧∀ e∈x.ws,e.2.length≤8:=by
 obtain⟨h1,h2,h3,h4,-⟩:=h
 refine⟨?_,h3,h4,h1.its.2⟩
 obtain⟨⟨a1,a2,a3,a4,a5,a6,a7,a8,a9,a10,a11⟩,b1,b2,b3⟩:=h1
 have h9:=a9.2
 have:(x.bl+x.pe - 1) / x.pe≤x.bl+x.pe - 1:=Int.ediv_le_self _ (by omega)
 have h8:(x.bl+x.pe - 1) / x.pe≤x.bl:=by
   have:=Int.ediv_lt_of_lt_mul (a:=x.bl+x.pe - 1) (b:=x.bl+1) (c:=x.pe) (by omega) (by
     have:x.bl*1≤x.bl*x.pe:=Int.mul_le_mul_of_nonneg_left (by omega) (by omega)
     rw[Int.add_mul];omega)
   omega
 omega
theorem vV{P L:List Int}(h:P.Perm L)(h1:P.Pairwise (·≤·))(h2:L.Pairwise (·≤·)):P=L:=h.eq_of_pairwise (le:=(·≤·)) (fun a b _ _ h1 h2=>by omega) h1 h2
def zU(fl n:Int)(z:Int):Int:=fl+z % (n - fl+1)
abbrev stZ(bl sz:Int):List (List Int):=List.replicate bl.toNat (List.replicate sz.toNat 0)
abbrev stL(bl sz:Int)(ws:List PWr)(t:Nat):List (List Int):=(ws.take t).foldl stW (stZ bl sz)
def zL(i:Nat)(d:List Int)(x:PI):List Int:=if x.1=(i:Int) then x.2 else d
end
section
noncomputable def doV(x:VolV)(c:Cm):VolV×Int:=
 if c.kd=4 then ({ x with pins:=(l5 x.hi x.fl c.at0 x.ws.length x.pins).1 },(l5 x.hi x.fl c.at0 x.ws.length x.pins).2)
 else if c.kd=5 then ({ x with pins:=(jm x.hi c.at0 x.pins).1 },(jm x.hi c.at0 x.pins).2)
 else ({ x with ne:=(doR x.bl x.sz x.to x.ne x.fl x.hi x.pins x.ws c.kd c.at0 c.ix c.its).1,hi:=(doR x.bl x.sz x.to x.ne x.fl x.hi x.pins x.ws c.kd c.at0 c.ix c.its).2.1,fl:=(doR x.bl x.sz x.to x.ne x.fl x.hi x.pins x.ws c.kd c.at0 c.ix c.its).2.2.1,ws:=(doR x.bl x.sz x.to x.ne x.fl x.hi x.pins x.ws c.kd c.at0 c.ix c.its).2.2.2.1 },(doR x.bl x.sz x.to x.ne x.fl x.hi x.pins x.ws c.kd c.at0 c.ix c.its).2.2.2.2)
def nu(y:VolV)(e:Int):Int×Int×Int:=if e=0 then ((y.ws.length:Int),y.fl,y.ne) else (0,0,0)
theorem k8{y:VolV}{e rl rf rn:Int}(h:(e≠0∧rl=0∧rf=0∧rn=0)∨(e=0∧rl=y.ws.length∧rf=y.fl∧rn=y.ne)):nu y e=(rl,rf,rn):=by
 rcases h with ⟨h1,rfl,rfl,rfl⟩|⟨rfl,rfl,rfl,rfl⟩
 · rw[nu,if_neg h1]
 rw[nu,if_pos rfl]
theorem yH{x:VolV}{c:Cm}(hx:VolS n x)(hb:∀ e∈c.its,BytesL e.2):VolS (n+1) (doV x c).1∧(doV x c).1.vo=x.vo:=by
 obtain⟨h1,h2,h3,h4,h5⟩:=hx
 unfold doV
 by_cases k4:c.kd=4
 · rw[if_pos k4]
   cases hd:l5 x.hi x.fl c.at0 x.ws.length x.pins with
   | mk pins' e9 =>
     obtain⟨g1,g2,g3⟩:=h1.pin h2 hd
     exact⟨⟨g1,g2,by simp only;omega,by simp only;omega,h5⟩,rfl⟩
 rw[if_neg k4]
 by_cases k5:c.kd=5
 · rw[if_pos k5]
   cases hd:jm x.hi c.at0 x.pins with
   | mk pins' e9 =>
     obtain⟨g1,g2,g3⟩:=h1.unpin h2 hd
     exact⟨⟨g1,g2,by simp only;omega,by simp only;omega,h5⟩,rfl⟩
 rw[if_neg k5]
 obtain⟨ne',hi',fl',ws',e9,hd⟩:∃ a b d e f,doR x.bl x.sz x.to x.ne x.fl x.hi x.pins x.ws c.kd c.at0 c.ix c.its=(a,b,d,e,f):=⟨_,_,_,_,_,rfl⟩
 obtain⟨g1,g2,g3⟩:=h1.do h2 hd
 rw[hd]
 exact⟨⟨g1,g2,by simp only;omega,by simp only;omega,xS hd h5 hb⟩,rfl⟩
theorem yT(S:Nat→Prop)(x:VolV)(c:Cm)(n)(hx:VolS n x)(hn:n≤800000)(hil:c.its.length≤1000000)(hio:j3 c.its)(p1 p2 p3 q1 pi c1 c2 c3 nx n1 d1 ni ci)(v1 v2 v3 v4 v5:Int)(w0:World)(h1:Rd S w0 (.slice p1 x.place.length c1) (.ns .i64 x.place))(h2:Rd S w0 (.slice p2 x.pins.length c2) (.ns .i64 x.pins))(h3:Rd S w0 (.slice p3 nx c3) (.l 2 (x.ws.map wrD)))(h4:Rd S w0 (.slice pi ni ci) (.l 2 (c.its.map itD))) :
   Calls Tryz.prog 96 #[.agg #[.int .i64 x.vo,.int .i64 x.bl,.int .i64 x.sz,.int .i64 x.pe,.slice p1 x.place.length c1,.int .i64 x.to,.int .i64 x.ne,.bool x.hi,.int .i64 x.fl,.slice p2 x.pins.length c2,.slice p3 nx c3],.agg #[.int .i64 c.kd,.int .i64 v1,.int .i64 v2,.int .i64 v3,.int .i64 v4,.slice q1 n1 d1,.int .i64 v5,.int .i64 c.at0,.int .i64 c.ix,.slice pi ni ci]] w0 fun e w' => ∃ (y:VolV) (e9 rl rf rn:Int) (p1 p2 p3:Option Addr) (d1 d2 d3:Nat),e=.returned (.tuple #[.agg #[.int .i64 y.vo,.int .i64 y.bl,.int .i64 y.sz,.int .i64 y.pe,.slice p1 y.place.length d1,.int .i64 y.to,.int .i64 y.ne,.bool y.hi,.int .i64 y.fl,.slice p2 y.pins.length d2,.slice p3 (y.ws.map wrD).length d3],.agg #[.int .i64 e9,.int .i64 rl,.int .i64 rf,.int .i64 rn,.slice none 0 0]])∧doV x c=(y,e9)∧nu y e9=(rl,rf,rn)∧Rd (Out S w0) w' (.slice p1 y.place.length d1) (.ns .i64 y.place)∧Rd (Out S w0) w' (.slice p2 y.pins.length d2) (.ns .i64 y.pins)∧Rd (Out S w0) w' (.slice p3 (y.ws.map wrD).length d3) (.l 2 (y.ws.map wrD))∧Below w0.heap.size w0 w':=by
 obtain rfl:nx=(x.ws.map wrD).length:=by obtain⟨pq,cq,hv,_⟩:=h3.l_shape;injection hv with _ e2 _
 obtain rfl:ni=c.its.length:=by obtain⟨pq,cq,hv,_⟩:=h4.l_shape;injection hv with _ e2 _;rw[List.length_map] at e2;exact e2
 have hF:∀ (M:Mm),(∀ b,¬ Own M b)→∀ b,S b→jt (cx S w0) M b:=fun M hM b hb=>⟨fun _=>hb,hM b⟩
 have m1:=(MemOk.start S w0).dat 1 rfl (h1.cast (fun b hb=>hF _ (by rintro b ⟨j,s,hj,_⟩;cases hj) b hb))
 have m2:=m1.dat 2 rfl (h2.cast (fun b hb=>hF _ (by rintro b ⟨j,s,hj,hs⟩;rw[iD] at hj;split at hj;(· cases hj;cases hs);cases hj) b hb))
 have m3:=m2.dat 3 rfl (h3.cast (fun b hb=>hF _ (by rintro b ⟨j,s,hj,hs⟩;rw[iD] at hj;split at hj;(· cases hj;cases hs);rw[iD] at hj;split at hj;(· cases hj;cases hs);cases hj) b hb))
 have m4:=m3.dat 4 rfl (h4.cast (fun b hb=>hF _ (by rintro b ⟨j,s,hj,hs⟩;rw[iD] at hj;split at hj;(· cases hj;cases hs);rw[iD] at hj;split at hj;(· cases hj;cases hs);rw[iD] at hj;split at hj;(· cases hj;cases hs);cases hj) b hb))
 obtain⟨vo,bl,sz,pe,place,to,ne,hi,fl,pins,ws⟩:=x
 obtain⟨kd,cvo,cbl,csz,cpe,cpl,cto,at0,ix,its⟩:=c
 obtain⟨g1,g2,g3,g4,g5⟩:=hx
 simp only at *
 have hne : -1000000000000000≤ne∧ne≤1000000000000000:=by
   obtain⟨⟨a1,a2,a3,a4,a5,a6,a7,a8,a9,aa,ab⟩,b1,b2,b3⟩:=g1
   omega
 have hpl:place.length≤1000000:=by
   have:=(VolS.sm (x:=⟨vo,bl,sz,pe,place,to,ne,hi,fl,pins,ws⟩) ⟨g1,g2,g3,g4,g5⟩).1
   simp only at this;omega
 have hok:kK ws:=g1.its.1
 by_cases k4:kd=4
 · subst k4
   refine(zu (cx S w0) vo bl sz pe to ne fl hi place pins ws p1 p2 p3 c1 c2 c3 v1 v2 v3 v4 v5 at0 ix q1 n1 d1 pi its.length ci w0 hpl (by omega) (by omega) hok (m4.only [1,2,3])).mono ?_
   rintro e w' ⟨pins',e9,rl,rf,rn,p1',d1',p2',d2',p3',d3',rfl,hd,hr,m⟩
   have ma:=m.freezeSN 6 rfl (by intro b hb;cases hb)
   have mb:=ma.freezeS 7 rfl (by intro b hb;cases hb)
   refine⟨⟨vo,bl,sz,pe,place,to,ne,hi,fl,pins',ws⟩,e9,rl,rf,rn,_,_,_,_,_,_,rfl,?_,k8 hr,mb.outD (i:=5) rfl,mb.outD (i:=6) rfl,mb.outD (i:=7) rfl,mb.below⟩
   simp only [doV,if_true,hd]
 by_cases k5:kd=5
 · subst k5
   refine(zv (cx S w0) vo bl sz pe to ne fl hi place pins ws p1 p2 p3 c1 c2 c3 v1 v2 v3 v4 v5 at0 ix q1 n1 d1 pi its.length ci w0 hpl (by omega) (by omega) hok (m4.only [1,2,3])).mono ?_
   rintro e w' ⟨pins',e9,rl,rf,rn,p1',d1',p2',d2',p3',d3',rfl,hd,hr,m⟩
   have ma:=m.freezeSN 6 rfl (by intro b hb;cases hb)
   have mb:=ma.freezeS 7 rfl (by intro b hb;cases hb)
   refine⟨⟨vo,bl,sz,pe,place,to,ne,hi,fl,pins',ws⟩,e9,rl,rf,rn,_,_,_,_,_,_,rfl,?_,k8 hr,mb.outD (i:=5) rfl,mb.outD (i:=6) rfl,mb.outD (i:=7) rfl,mb.below⟩
   simp only [doV,hd];rfl
 obtain⟨ne',hi',fl',ws',e9,hd⟩:∃ a b d e f,doR bl sz to ne fl hi pins ws kd at0 ix its=(a,b,d,e,f):=⟨_,_,_,_,_,rfl⟩
 refine(xT (cx S w0) vo bl sz pe to ne fl hi place pins ws its p1 p2 p3 c1 c2 c3 pi ci kd v1 v2 v3 v4 v5 at0 ix q1 n1 d1 w0 ne' hi' fl' ws' e9 hd hpl k4 k5 hne (by omega) (by omega) hil hio hok (m4.only [1,2,3,4])).mono ?_
 rintro e w' ⟨rl,rf,rn,p1',d1',p2',d2',p3',d3',rfl,hr,m⟩
 have mb:=m.freezeS 7 rfl (by intro b hb;cases hb)
 refine⟨⟨vo,bl,sz,pe,place,to,ne',hi',fl',pins,ws'⟩,e9,rl,rf,rn,_,_,_,_,_,_,rfl,?_,k8 hr,mb.outD (i:=5) rfl,mb.outD (i:=6) rfl,mb.outD (i:=7) rfl,mb.below⟩
 simp only [doV,if_neg k4,if_neg k5,hd]
theorem yU(kd vo bl sz pe to at0 ix:Int)(place:List Int)(pp pi)(cp ni ci:Nat)(w0:World)(h0:Rd (fun _=>True) w0 (.slice pp place.length cp) (.ns .i64 place))(hn:place.length≤1000000)(hN:iQ vo bl sz pe to place) :
   Calls Tryz.prog 95 #[.agg #[.int .i64 kd,.int .i64 vo,.int .i64 bl,.int .i64 sz,.int .i64 pe,.slice pp place.length cp,.int .i64 to,.int .i64 at0,.int .i64 ix,.slice pi ni ci]] w0 fun e w' => ∃ p c,e=.returned (.tuple #[.agg #[.int .i64 vo,.int .i64 bl,.int .i64 sz,.int .i64 pe,.slice p place.length c,.int .i64 to,.int .i64 0,.bool (decide (0<to)),.int .i64 0,.slice none 0 0,.slice none 0 0],.int .i64 0])∧Rd (New w0) w' (.slice p place.length c) (.ns .i64 place)∧Below w0.heap.size w0 w':=
 (ly kd vo bl sz pe to at0 ix place pp pi cp ni ci w0 h0 hn).mono fun e w' h=>h.elim (fun h=>h.2) (fun h=>absurd hN h.1)
theorem yV(kd vo bl sz pe to at0 ix:Int)(place:List Int)(pp pi)(cp ni ci:Nat)(w0:World)(h0:Rd (fun _=>True) w0 (.slice pp place.length cp) (.ns .i64 place))(hn:place.length≤1000000)(hN:¬ iQ vo bl sz pe to place) :
   Calls Tryz.prog 95 #[.agg #[.int .i64 kd,.int .i64 vo,.int .i64 bl,.int .i64 sz,.int .i64 pe,.slice pp place.length cp,.int .i64 to,.int .i64 at0,.int .i64 ix,.slice pi ni ci]] w0 fun e w'=>e=.returned (.tuple #[.agg #[.int .i64 0,.int .i64 0,.int .i64 0,.int .i64 0,.slice none 0 0,.int .i64 0,.int .i64 0,.bool false,.int .i64 0,.slice none 0 0,.slice none 0 0],.int .i64 23])∧Below w0.heap.size w0 w':=
 (ly kd vo bl sz pe to at0 ix place pp pi cp ni ci w0 h0 hn).mono fun e w' h=>h.elim (fun h=>absurd h.1 hN) (fun h=>h.2)
end
section
theorem nj:iO Tryz.prog 38 [.int .i64 0,.int .i64 0,.int .i64 0,.int .i64 0,.int .i64 0,.slice none 0 0,.int .i64 0,.int .i64 0,.int .i64 0,.slice none 0 0]=true:=by kernel_rfl
theorem ud{b0 b1 b2 b3 b4 b5 b6 b7 b8 b9 b10 pl:List Int}{e0 e1 e2 e3 e4 e5 e6 e7 e8 e9 e10 u0 u1 u2 u3 u4 u5 u6 u7:Int}{its:List (Int×List Int)}{y:Cm}(h0:XE b0 e0 (enc y.kd) (u0=y.kd) b1 e1)(h1:XE b1 e1 (enc y.vo) (u1=y.vo) b2 e2)(h2:XE b2 e2 (enc y.bl) (u2=y.bl) b3 e3)(h3:XE b3 e3 (enc y.sz) (u3=y.sz) b4 e4)(h4:XE b4 e4 (enc y.pe) (u4=y.pe) b5 e5)(h5:XE b5 e5 (enc y.to) (u5=y.to) b6 e6)(h6:XE b6 e6 (enc y.at0) (u6=y.at0) b7 e7)(h7:XE b7 e7 (enc y.ix) (u7=y.ix) b8 e8)(h8:XE b8 e8 (enc y.pl.length++y.pl.flatMap enc) (pl=y.pl) b9 e9)(h9:XE b9 e9 (enc y.its.length++y.its.flatMap j6) (its=y.its) b10 e10):XE b0 e0 (cmE y) ((⟨u0,u1,u2,u3,u4,pl,u5,u6,u7,its⟩:Cm)=y) b10 e10:=fun T h hb=>by
 obtain⟨⟨⟨⟨⟨⟨⟨⟨⟨⟨p0,p1⟩,p2⟩,p3⟩,p4⟩,p5⟩,p6⟩,p7⟩,p8⟩,p9⟩,hr⟩:=(((((((((h0.tr h1).tr h2).tr h3).tr h4).tr h5).tr h6).tr h7).tr h8).tr h9) T h (by rw[hb];simp [cmE,mh,im,ir])
 exact⟨by rw[p0,p1,p2,p3,p4,p5,p6,p7,p8,p9],hr⟩
theorem mu(X)(b:List Int)(hb:b.length≤1000000)(hbb:BytesL b)(p)(c:Nat)(w0)(m0:MemOk X w0 [(1,.dat (.slice p b.length c) (.ns .u8 b))] w0) :
   Calls Tryz.prog 28 #[.slice p b.length c] w0 fun e w'=>(∃ (x:Cm) (pp pi:Option Addr) (cp ci:Nat),CmdR x∧(∀ e∈x.its,BytesL e.2)∧cmE x=b∧(∀ y:Cm,CmdR y→(∀ e∈y.its,BytesL e.2)→cmE y=b→y=x)∧e=.returned (.tuple #[.agg #[.int .i64 x.kd,.int .i64 x.vo,.int .i64 x.bl,.int .i64 x.sz,.int .i64 x.pe,.slice pp x.pl.length cp,.int .i64 x.to,.int .i64 x.at0,.int .i64 x.ix,.slice pi (x.its.map itD).length ci],.int .i64 0])∧MemOk X w0 [(1,.dat (.slice p b.length c) (.ns .u8 b)),(2,.dat (.slice pp x.pl.length cp) (.ns .i64 x.pl)),(3,.dat (.slice pi (x.its.map itD).length ci) (.l 2 (x.its.map itD)))] w')∨((∀ x:Cm,CmdR x→(∀ e∈x.its,BytesL e.2)→cmE x≠b)∧e=.returned (.tuple #[.agg #[.int .i64 0,.int .i64 0,.int .i64 0,.int .i64 0,.int .i64 0,.slice none 0 0,.int .i64 0,.int .i64 0,.int .i64 0,.slice none 0 0],.int .i64 20])∧MemOk X w0 [(1,.dat (.slice p b.length c) (.ns .u8 b))] w'):=by
 refine i9 Tryz.func28 rfl Tryz.ntmps28 fun Y U=>zsr fun K0 hK0=>plz<|hZ U m0 40 i8 rfl fun g1 Y w2 U m2 _ _=>gz hK0 U (.assign rfl .nil) fun Y U=>zsr fun K1 hK1=>g9 U (.move rfl .nil) fun Y U=>plz (ecl U Tryz.func59 rfl (rm _ b _ _ _ hb (m2.into [(1,1)] (by decide) rfl)) ?_)
 rintro e w6 ⟨B,p6,c6,rfl,hm6⟩
 have mx6:=m2.back hm6 [(31,1),(32,2),(1,3)] (by decide);clear hm6 m2
 have m6:=mx6.oz [31,32,1,40]
 refine⟨_,rfl,?_⟩;intro Y U
 refine gz hK1 U (.assign rfl .nil) fun Y U=>zsr fun K2 hK2=>g9 U (.move rfl .nil) fun Y U=>plz (ecl U Tryz.func73 rfl (kB _ _ b 0 _ _ _ hb hbb (m6.into [(1,31),(2,32)] (by decide) rfl)) ?_)
 rintro e cl ⟨aa,az,bf,cm,co,rfl,bV,aA,aB,aC⟩
 have bg:=m6.back aC [(31,1),(32,2)] (by decide);clear aC m6
 have bh:=bg.oz [31,32,1,40]
 refine⟨_,rfl,?_⟩;intro Y U
 have ao:az.length≤1000000:=Nat.le_trans aB.1 hb
 refine g9 U (.move rfl .nil) fun Y U=>plz (ecl U Tryz.func73 rfl (kB _ _ az bf _ _ _ ao aB.2.1 (bh.into [(1,31),(2,32)] (by decide) rfl)) ?_)
 rintro e cq ⟨ab,aD,bi,cr,cs,rfl,bW,aE,aF,aG⟩
 have bj:=bh.back aG [(31,1),(32,2)] (by decide);clear aG bh
 have bk:=bj.oz [31,32,1,40]
 refine⟨_,rfl,?_⟩;intro Y U
 have ap:aD.length≤1000000:=Nat.le_trans aF.1 ao
 refine g9 U (.move rfl .nil) fun Y U=>plz (ecl U Tryz.func73 rfl (kB _ _ aD bi _ _ _ ap aF.2.1 (bk.into [(1,31),(2,32)] (by decide) rfl)) ?_)
 rintro e ct ⟨ac,aH,bm,cu,cv,rfl,bX,aI,aJ,aK⟩
 have bn:=bk.back aK [(31,1),(32,2)] (by decide);clear aK bk
 have bo:=bn.oz [31,32,1,40]
 refine⟨_,rfl,?_⟩;intro Y U
 have aq:aH.length≤1000000:=Nat.le_trans aJ.1 ap
 refine g9 U (.move rfl .nil) fun Y U=>plz (ecl U Tryz.func73 rfl (kB _ _ aH bm _ _ _ aq aJ.2.1 (bo.into [(1,31),(2,32)] (by decide) rfl)) ?_)
 rintro e cw ⟨ad,aL,bp,cy,cz,rfl,bY,aM,aN,aO⟩
 have bq:=bo.back aO [(31,1),(32,2)] (by decide);clear aO bo
 have br:=bq.oz [31,32,1,40]
 refine⟨_,rfl,?_⟩;intro Y U
 have ar:aL.length≤1000000:=Nat.le_trans aN.1 aq
 refine g9 U (.move rfl .nil) fun Y U=>plz (ecl U Tryz.func73 rfl (kB _ _ aL bp _ _ _ ar aN.2.1 (br.into [(1,31),(2,32)] (by decide) rfl)) ?_)
 rintro e cA ⟨ae,aP,bs,cB,cC,rfl,bZ,aQ,aR,aS⟩
 have bt:=br.back aS [(31,1),(32,2)] (by decide);clear aS br
 have bu:=bt.oz [31,32,1,40]
 refine⟨_,rfl,?_⟩;intro Y U
 have au:aP.length≤1000000:=Nat.le_trans aR.1 ar
 refine g9 U (.move rfl .nil) fun Y U=>plz (ecl U Tryz.func73 rfl (kB _ _ aP bs _ _ _ au aR.2.1 (bu.into [(1,31),(2,32)] (by decide) rfl)) ?_)
 rintro e cD ⟨ag,aT,bv,cE,cF,rfl,b0,aU,aV,aW⟩
 have bw:=bu.back aW [(31,1),(32,2)] (by decide);clear aW bu
 have bx:=bw.oz [31,32,1,40]
 refine⟨_,rfl,?_⟩;intro Y U
 have av:aT.length≤1000000:=Nat.le_trans aV.1 au
 refine g9 U (.move rfl .nil) fun Y U=>plz (ecl U Tryz.func74 rfl (rI _ _ aT bv _ _ _ av aV.2.1 (bx.into [(1,31),(2,32)] (by decide) rfl)) ?_)
 rintro e cG ⟨ah,aX,bz,cH,cI,rfl,b1,aY,aZ,a0⟩
 have bA:=bx.back a0 [(31,1),(32,2)] (by decide);clear a0 bx
 have bB:=bA.oz [31,32,1,40]
 refine⟨_,rfl,?_⟩;intro Y U
 have aw:aX.length≤1000000:=Nat.le_trans aZ.1 av
 refine g9 U (.move rfl .nil) fun Y U=>plz (ecl U Tryz.func73 rfl (kB _ _ aX bz _ _ _ aw aZ.2.1 (bB.into [(1,31),(2,32)] (by decide) rfl)) ?_)
 rintro e cJ ⟨ai,a1,bC,cK,cL,rfl,b4,a2,a3,a4⟩
 have bE:=bB.back a4 [(31,1),(32,2)] (by decide);clear a4 bB
 have b9:=bE.oz [31,32,1,40]
 refine⟨_,rfl,?_⟩;intro Y U
 have ax:a1.length≤1000000:=Nat.le_trans a3.1 aw
 refine g9 U (.build rfl i8 nj rfl (by dsimp only [iY,List.set] <;> rfl) .nil) fun Y U=>plz<|hZ U b9 41 i8 rfl fun cM Y cN U ca _ _=>plz (stw U ca 41 ip fun cO bF _ =>?_)
 refine znl (hK2 _ _ ?_)
 replace U:=U.oz [0,2,3,4,5]
 refine zsr fun K3 hK3=>g9 U (.move rfl .nil) fun Y U=>plz (ecl U Tryz.func75 rfl (rJ _ _ a1 bC _ _ _ ax a3.2.1 (bF.into [(1,31),(2,32)] (by decide) rfl)) ?_)
 rintro e cP ⟨pl,a5,bG,cQ,cR,cb,cc,rfl,hpl,hpb,a6,a7,a8⟩
 have bH:=bF.back a8 [(31,1),(32,2),(42,3)] (by decide);clear a8 bF
 have bI:=bH.oz [31,32,42,1,40,41]
 refine⟨_,rfl,?_⟩;intro Y U
 have ay:a5.length≤1000000:=Nat.le_trans a7.1 ax
 refine g9 U (.move rfl .nil) fun Y U=>plz (ecl U Tryz.func76 rfl (lU _ _ a5 bG _ _ _ ay a7.2.1 (bI.into [(1,31),(2,32)] (by decide) rfl)) ?_)
 rintro e cS ⟨its,a9,bJ,cT,cU,cd,ce,rfl,hil,hib,ba,bK,bb⟩
 have bL:=bI.back bb [(31,1),(32,2),(43,3)] (by decide);clear bb bI
 have cf:=bL.oz [31,32,43,1,40,41,42]
 refine⟨_,rfl,?_⟩;intro Y U
 have b5:a9.length≤1000000:=Nat.le_trans bK.1 ay
 have hXY:∀ y:Cm,CmdR y→XE b 0 (cmE y) ((⟨aa,ab,ac,ad,ae,pl,ag,ah,ai,its⟩:Cm)=y) a9 bJ:=fun y hy=>ud (aA _ (by have:=hy.kd;omega) (by have:=hy.kd;omega)) (aE _ (by have:=hy.vo;omega) (by have:=hy.vo;omega)) (aI _ (by have:=hy.t40;omega) (by have:=hy.t40;omega)) (aM _ (by have:=hy.t40;omega) (by have:=hy.t40;omega)) (aQ _ (by have:=hy.t40;omega) (by have:=hy.t40;omega)) (aU _ (by have:=hy.t40;omega) (by have:=hy.t40;omega)) (aY _ (by have:=hy.t40;omega) (by have:=hy.t40;omega)) (a2 _ (by have:=hy.t40;omega) (by have:=hy.t40;omega)) (a6 _ (by have:=hy.pl;omega) (fun z hz=>by have:=hy.pb z hz;omega)) (ba _ (by have:=hy.il;omega) (fun e he=>by have:=hy.ib e he;omega))
 clear aA aE aI aM aQ aU aY a2 a6 ba
 refine g9 U (.fieldAddr (off:=5) rfl U38 rfl (s:=0) (by kernel_rfl) rfl .nil) fun Y U=>plz (st1 U cf 41 n0 fun cV cg _ =>?_)
 refine g9 U (.fieldAddr (off:=9) rfl U38 rfl (s:=0) (by kernel_rfl) rfl .nil) fun Y U=>plz (st1 U cg 41 sI fun cW bM _ =>?_)
 refine znl<|hK3 _ _<|wsk fun K4 hK4 =>?_
 replace U:=U.oz [0,2,3,4,5]
 refine zsr fun K5 hK5=>g9 U (.move rfl .nil) fun Y U=>plz (ecl U Tryz.func62 rfl (lQ _ _ _ _ _ _ _ (bM.into [(1,31),(2,32)] (by decide) rfl)) ?_)
 rintro e cX ⟨rfl,bd⟩
 have bN:=bM.back bd [(31,1),(32,2)] (by decide);clear bd bM
 have ak:=bN.oz [31,32,1,40,41,42,43]
 refine⟨_,rfl,?_⟩;intro Y U
 refine gz hK5 U (.neq rfl rfl .nil) fun Y U=>bc U 35 ?_ ?_
 ·
  intro al U;try simp only [QQ,Qax] at al
  have cY:=al
  have hno:∀ x:Cm,CmdR x→(∀ e∈x.its,BytesL e.2)→cmE x≠b:=fun y h1 h2 h3=>absurd (hXY y h1 [] rfl (by rw[h3,List.append_nil])).2.2 (by omega)
  refine wct U<|zsr fun K6 hK6=>g9 U (.build rfl i8 nj rfl (by dsimp only [iY,List.set] <;> rfl) .nil) fun Y U=>plz (stw U ak 40 ip fun cZ b6 _ =>?_)
  refine gz hK6 U (.assign rfl .nil) fun Y U=>rtd (iF (fn:=Tryz.f28) U b6 (i:=40) rfl rfl rfl rfl U38 rfl ip ?_)
  exact .inr ⟨hno,rfl,b6.only [1]⟩
 intro al U;try simp only [QQ,Qax] at al
 refine wcf U<|zss<|hK4 _ _<|wsk fun K7 hK7=>wsk fun K8 hK8 =>?_
 by_cases hR:CmdR (⟨aa,ab,ac,ad,ae,pl,ag,ah,ai,its⟩:Cm)
 ·
  refine wp_region_lit<|g9 U (.loadBR ak (i:=41) rfl rfl U38 rfl ip (by simp) (by dsimp only [List.drop,List.take] <;> rfl) .nil) fun Y U=>plz<|ecn U Tryz.func25 rfl ak 44 (mr (⟨aa,ab,ac,ad,ae,pl,ag,ah,ai,its⟩:Cm) hR _ _ _ _ _ _ ((ak.rd (i:=42) rfl).any) ((ak.rd (i:=43) rfl).any)) fun c0 c1 Y c2 U ch=>gz hK8 U (.move rfl<|.extract rfl rfl<|.extract rfl rfl<|.assign rfl<|.assign rfl<|.nil) fun Y U =>?_
  replace U:=U.oz [0,2,3,5,38,6,7]
  refine zsr fun K9 hK9=>g9 U (.move rfl<|.neq rfl rfl<|.move rfl .nil) fun Y U=>bcF U 44 fun U=>g9 U (.moveZ rfl<|.moveZ rfl .nil) fun Y U =>?_
  have bO:=ch.freezeN 44 rfl
  refine stz U (ecb U Tryz.func64 rfl bO (yG _ _ _ _ _ _ _ ((bO.rd (i:=44) rfl).any) ((bO.rd (i:=1) rfl).any) ((hR.ok (fun e he=>(hib e he).2.2)).bytes) hbb) fun Y c3 U bP =>?_)
  refine gz hK9 U (.notZ rfl<|.pickF rfl rfl<|.nil) fun Y U=>bc U 49 ?_ ?_
  ·
   intro aj U;try simp only [QQ,Qax] at aj
   have bQ:¬ cmE (⟨aa,ab,ac,ad,ae,pl,ag,ah,ai,its⟩:Cm)=b:=by simpa using aj
   have hno:∀ x:Cm,CmdR x→(∀ e∈x.its,BytesL e.2)→cmE x≠b:=fun y h1 h2 h3=>bQ (by rw[(hXY y h1 [] rfl (by rw[h3,List.append_nil])).1];exact h3)
   refine wct U ?_
   replace U:=U.oz [2,3,5,38]
   refine zsr fun c4 bR=>g9 U (.build rfl i8 nj rfl (by dsimp only [iY,List.set] <;> rfl) .nil) fun Y U=>plz (stw U bP 40 ip fun c5 b7 _ =>?_)
   refine gz bR U (.assign rfl .nil) fun Y U=>rtd (iF (fn:=Tryz.f28) U b7 (i:=40) rfl rfl rfl rfl U38 rfl ip ?_)
   exact .inr ⟨hno,rfl,b7.only [1]⟩
  intro aj U;try simp only [QQ,Qax] at aj
  have bQ:cmE (⟨aa,ab,ac,ad,ae,pl,ag,ah,ai,its⟩:Cm)=b:=by simpa using aj
  refine wcf U<|zss (hK7 _ _ ?_)
  replace U:=U.oz [2,3,5,38]
  refine zsr fun c7 bS=>g9 U (.loadBR bP (i:=41) rfl rfl U38 rfl ip (by simp) (by dsimp only [List.drop,List.take] <;> rfl) .nil) fun Y U=>plz (stw U bP 40 ip fun c8 b8 _ =>?_)
  refine gz bS U (.assign rfl .nil) fun Y U=>rtd (iF (fn:=Tryz.f28) U b8 (i:=40) rfl rfl rfl rfl U38 rfl ip ?_)
  exact .inl ⟨(⟨aa,ab,ac,ad,ae,pl,ag,ah,ai,its⟩:Cm),_,_,_,_,hR,(fun e he=>(hib e he).2.2),bQ,(fun y h1 h2 h3=>(hXY y h1 [] rfl (by rw[h3,List.append_nil])).1.symm),rfl,b8.ren [(1,1),(2,42),(3,43)] (by decide)⟩
 have hno:∀ x:Cm,CmdR x→(∀ e∈x.its,BytesL e.2)→cmE x≠b:=fun y h1 h2 h3=>hR ((hXY y h1 [] rfl (by rw[h3,List.append_nil])).1 ▸ h1)
 refine wp_region_lit<|g9 U (.loadBR ak (i:=41) rfl rfl U38 rfl ip (by simp) (by dsimp only [List.drop,List.take] <;> rfl) .nil) fun Y U=>plz<|ecb U Tryz.func25 rfl ak (ri (⟨aa,ab,ac,ad,ae,pl,ag,ah,ai,its⟩:Cm) hR _ _ _ _ _ _ ((ak.rd (i:=42) rfl).any) ((ak.rd (i:=43) rfl).any)) fun Y c9 U cj=>gz hK8 U (.move rfl<|.extract rfl rfl<|.extract rfl rfl<|.assign rfl<|.assign rfl<|.nil) fun Y U =>?_
 replace U:=U.oz [0,2,3,5,38,6,7]
 refine zsr fun da bT=>g9 U (.move rfl<|.neq rfl rfl<|.move rfl .nil) fun Y U=>bcT U 44 fun U=>gz bT U (.sk<|.sk<|.sk<|.sk<|.pickT rfl rfl<|.nil) fun Y U=>wct U ?_
 replace U:=U.oz [2,3,5,38]
 refine zsr fun db bU=>g9 U (.build rfl i8 nj rfl (by dsimp only [iY,List.set] <;> rfl) .nil) fun Y U=>plz (stw U cj 40 ip fun ck be _ =>?_)
 refine gz bU U (.assign rfl .nil) fun Y U=>rtd (iF (fn:=Tryz.f28) U be (i:=40) rfl rfl rfl rfl U38 rfl ip ?_)
 exact .inr ⟨hno,rfl,be.only [1]⟩
theorem lR(X)(x:Cm)(hR:CmdR x)(hby:∀ e∈x.its,BytesL e.2)(p)(c:Nat)(w0)(m0:MemOk X w0 [(1,.dat (.slice p (cmE x).length c) (.ns .u8 (cmE x)))] w0) :
   Calls Tryz.prog 28 #[.slice p (cmE x).length c] w0 fun e w' => ∃ (pp pi:Option Addr) (cp ci:Nat),e=.returned (.tuple #[.agg #[.int .i64 x.kd,.int .i64 x.vo,.int .i64 x.bl,.int .i64 x.sz,.int .i64 x.pe,.slice pp x.pl.length cp,.int .i64 x.to,.int .i64 x.at0,.int .i64 x.ix,.slice pi (x.its.map itD).length ci],.int .i64 0])∧MemOk X w0 [(1,.dat (.slice p (cmE x).length c) (.ns .u8 (cmE x))),(2,.dat (.slice pp x.pl.length cp) (.ns .i64 x.pl)),(3,.dat (.slice pi (x.its.map itD).length ci) (.l 2 (x.its.map itD)))] w':=by
 refine(mu X (cmE x) (by have:(cmE x).length≤20000:=(hR.ok hby).len;omega) (hR.ok hby).bytes p c w0 m0).mono ?_
 rintro e w' (⟨x',pp,pi,cp,ci,h1,h2,h3,h4,he,hm⟩|⟨h,_⟩)
 · obtain rfl:=h4 x hR hby rfl;exact⟨pp,pi,cp,ci,he,hm⟩
 exact absurd rfl (h x hR hby)
theorem rp(X)(b:List Int)(hb:b.length≤1000000)(hbb:BytesL b)(hno:∀ x:Cm,CmdR x→(∀ e∈x.its,BytesL e.2)→cmE x≠b)(p)(c:Nat)(w0)(m0:MemOk X w0 [(1,.dat (.slice p b.length c) (.ns .u8 b))] w0) :
   Calls Tryz.prog 28 #[.slice p b.length c] w0 fun e w'=>e=.returned (.tuple #[.agg #[.int .i64 0,.int .i64 0,.int .i64 0,.int .i64 0,.int .i64 0,.slice none 0 0,.int .i64 0,.int .i64 0,.int .i64 0,.slice none 0 0],.int .i64 20])∧MemOk X w0 [(1,.dat (.slice p b.length c) (.ns .u8 b))] w':=by
 refine(mu X b hb hbb p c w0 m0).mono ?_
 rintro e w' (⟨x,_,_,_,_,h1,h2,h3,_⟩|⟨_,he,hm⟩)
 · exact absurd h3 (hno x h1 h2)
 exact⟨he,hm⟩
end
end Go.Proofs.YtkehgingagggaaaGreat.K
