/- General laws of walks. -/
import Derived.Test.YtkehgingagggaaaGreatG11
import Derived.Test.YtkehgingagggaaaGreatG10
namespace Go.Proofs.YtkehgingagggaaaGreat.K
open Go.ChangeShapes Go.WideShapes Go.ChangeAt Go.RowKit
set_option linter.unusedVariables false
set_option linter.unusedSimpArgs false
set_option maxRecDepth 100000
set_option maxHeartbeats 4000000
set_option autoImplicit true
set_option relaxedAutoImplicit true
section
theorem wm:iO Tryz.prog 59 [.int .i64 0,.slice none 0 0]=true:=by kernel_rfl
def RdN(b:List Int)(er:Int)(b':List Int)(er':Int):Prop:=b'.length≤b.length∧BytesL b'∧(er'=0→er=0∧b'.length<b.length)
def RdW(b b':List Int):Prop:=b'.length≤b.length∧BytesL b'
theorem nl{b:List Int}{er e':Int}(h:e'≠0):RdN b er [] e':=⟨Nat.zero_le _,(fun x h=>by cases h),fun h9=>absurd h9 h⟩
theorem RdN.drop{b b':List Int}{er er':Int}(h:RdN b er b' er')(n):RdN b er (b'.drop n) er':=
 ⟨by rw[List.length_drop];have:=h.1;omega,fun x hx=>h.2.1 x (List.mem_of_mem_drop hx),fun h9=>⟨(h.2.2 h9).1,by rw[List.length_drop];have:=(h.2.2 h9).2;omega⟩⟩
theorem RdN.tr{b b' b2:List Int}{er er' e2:Int}(h:RdN b er b' er')(h2:RdN b' er' b2 e2):RdN b er b2 e2:=
 ⟨Nat.le_trans h2.1 h.1,h2.2.1,fun h9=>⟨(h.2.2 (h2.2.2 h9).1).1,Nat.lt_of_lt_of_le (h2.2.2 h9).2 h.1⟩⟩
theorem RdN.w{b b':List Int}{er er':Int}(h:RdN b er b' er'):RdW b b':=⟨h.1,h.2.1⟩
theorem RdW.tr{b b' b2:List Int}(h:RdW b b')(h2:RdW b' b2):RdW b b2:=⟨Nat.le_trans h2.1 h.1,h2.2⟩
theorem ot(b:List Int)(er mx:Int)(hb:BytesL b):RdN b er (i3 b er mx).2.1 (i3 b er mx).2.2:=by
 by_cases h0:er=0
 · subst h0
   cases hd:dec 0 0 b with
   | err e =>
     rw[kr mx hd]
     have h9:=oF _ _ _ _ hd
     show RdN b 0 [] e
     exact nl (by omega)
   | ok n k =>
     rw[jk mx hd]
     split
     · exact nl (by decide)
     have h9:=ue b 0 0 n k hb (by omega) (by decide) hd
     exact⟨by simp,fun x hx=>hb x (List.mem_of_mem_drop hx),fun _=>⟨rfl,by simp only [List.length_drop];omega⟩⟩
 rw[nm _ _ _ h0]
 exact⟨Nat.le_refl _,hb,fun h9=>absurd h9 h0⟩
theorem mE{α:Type}{l:List α}{x:α}{Q:α→Prop}(h:∀ e∈l,Q e)(hx:Q x):∀ e∈l++[x],Q e:=fun e he=>by
 rcases List.mem_append.1 he with he|he
 · exact h e he
 simp at he;subst he;exact hx
def XE(b:List Int)(er:Int)(E:List Int)(P:Prop)(b1:List Int)(e1:Int):Prop:=∀ T,er=0→b=E++T→P∧b1=T∧e1=0
theorem XE.tr{b b1 b2 E F:List Int}{er e1 e2:Int}{P Q:Prop}(h:XE b er E P b1 e1)(g:XE b1 e1 F Q b2 e2):XE b er (E++F) (P∧Q) b2 e2:=fun T h0 hb=>by
 obtain⟨p,h1,h2⟩:=h (F++T) h0 (by rw[hb,List.append_assoc])
 obtain⟨q,h3⟩:=g T h2 h1
 exact⟨⟨p,q⟩,h3⟩
theorem XE.mono{b b1 E:List Int}{er e1:Int}{P Q:Prop}(h:XE b er E P b1 e1)(g:P→Q):XE b er E Q b1 e1:=fun T h0 hb=>⟨g (h T h0 hb).1,(h T h0 hb).2⟩
def XL{A:Type}(f:A→List Int)(ok:A→Prop)(N:Nat)(b:List Int)(er un:Int)(l:List A)(b1:List Int)(e1:Int):Prop:=
 ∀ z:List A,z.length≤N→(∀ y∈z,ok y)→∀ T,er=0→b=enc z.length++(z.flatMap f++T)→un=z.length∧∃ r,z=l++r∧b1=r.flatMap f++T∧e1=0
theorem XL.start{A:Type}{f:A→List Int}{ok:A→Prop}{N:Nat}{b b1:List Int}{er e1 un mx:Int}(h:∀ z,0≤z→z≤mx→XE b er (enc z) (un=z) b1 e1)(hN:(N:Int)≤mx:=by omega):XL f ok N b er un [] b1 e1:=fun z hz _ T h0 hb=>by
 obtain⟨h1,h2,h3⟩:=h z.length (by omega) (by omega) _ h0 hb
 exact⟨h1,z,rfl,h2,h3⟩
theorem XL.step{A:Type}{f:A→List Int}{ok:A→Prop}{b b1 b2:List Int}{er e1 e2 un:Int}{l:List A}{v:A}(h:XL f ok N b er un l b1 e1)(hk:(l.length:Int)<un)(g:∀ x,ok x→XE b1 e1 (f x) (v=x) b2 e2):XL f ok N b er un (l++[v]) b2 e2:=fun z hz ho T h0 hb=>by
 obtain⟨h1,r,h2,h3,h4⟩:=h z hz ho T h0 hb
 cases r with
 | nil=>rw[h2,List.append_nil] at h1;omega
 | cons x r =>
   obtain⟨h5,h6,h7⟩:=g x (ho x (by rw[h2];simp)) (r.flatMap f++T) h4 (by rw[h3,List.flatMap_cons,List.append_assoc])
   exact⟨h1,r,by rw[h2,h5];simp,h6,h7⟩
theorem XL.fin{A:Type}{f:A→List Int}{ok:A→Prop}{b b1:List Int}{er e1 un:Int}{l:List A}(h:XL f ok N b er un l b1 e1)(hk:¬ ((l.length:Int)<un∧e1=0)):∀ z:List A,z.length≤N→(∀ y∈z,ok y)→XE b er (enc z.length++z.flatMap f) (l=z) b1 e1:=fun z hz ho T h0 hb=>by
 obtain⟨h1,r,h2,h3,h4⟩:=h z hz ho T h0 (by rw[hb,List.append_assoc])
 cases r with
 | nil=>exact⟨by rw[h2,List.append_nil],h3,h4⟩
 | cons x r=>exact absurd ⟨by rw[h1,h2,List.length_append,List.length_cons];omega,h4⟩ hk
theorem rK{b:List Int}{er mx:Int}(hm:mx≤18446744073709551615):∀ z,0≤z→z≤mx→XE b er (enc z) ((i3 b er mx).1=z) (i3 b er mx).2.1 (i3 b er mx).2.2:=fun z h0 h1 T he hb=>by
 subst he;rw[hb,rC z h0 (by omega) T mx h1];exact⟨rfl,rfl,rfl⟩
theorem pG{b b2 b3 d:List Int}{er e2 e3 u mx:Int}(h:∀ z,0≤z→z≤mx→XE b er (enc z) (u=z) b2 e2)(hn:e2≠0):∀ z:List Int,(z.length:Int)≤mx→XE b er (enc z.length++z) (d=z) b3 e3:=fun z hz T h0 hb =>
 absurd (h z.length (by omega) hz (z++T) h0 (by rw[hb,List.append_assoc])).2.2 hn
theorem mD{b b2 b3 d:List Int}{er e2 e3 u mx:Int}(h:∀ z,0≤z→z≤mx→XE b er (enc z) (u=z) b2 e2)(hn:(b2.length:Int)<u):∀ z:List Int,(z.length:Int)≤mx→XE b er (enc z.length++z) (d=z) b3 e3:=fun z hz T h0 hb=>by
 obtain⟨h1,h2,_⟩:=h z.length (by omega) hz (z++T) h0 (by rw[hb,List.append_assoc])
 rw[h1,h2,List.length_append] at hn;omega
theorem pH{b b2:List Int}{er e2 u mx:Int}{n:Nat}(h:∀ z,0≤z→z≤mx→XE b er (enc z) (u=z) b2 e2)(hn:u=n):∀ z:List Int,(z.length:Int)≤mx→XE b er (enc z.length++z) (b2.take n=z) (b2.drop n) e2:=fun z hz T h0 hb=>by
 obtain⟨h1,h2,h3⟩:=h z.length (by omega) hz (z++T) h0 (by rw[hb,List.append_assoc])
 obtain rfl:n=z.length:=by omega
 exact⟨by rw[h2,List.take_left],by rw[h2,List.drop_left],h3⟩
theorem iV(X B)(b:List Int)(er mx p)(c:Nat)(w0)(hb:b.length≤1000000)(hbb:BytesL b)(hmx:0≤mx∧mx≤18446744073709551615)(m0:MemOk X w0 [(1,.box B 115 [.slice p (b).length c,.int .i64 er]),(2,.dat (.slice p (b).length c) (.ns .u8 (b)))] w0) :
   Calls Tryz.prog 65 #[.pointer (some ⟨B,0,none⟩),.int .u64 mx] w0 fun e w' => ∃ (u:Int) (b':List Int) (er':Int) (p':Option Addr) (c':Nat),e=.returned (.int .u64 u)∧(0≤u∧u≤mx)∧(∀ z,0≤z→z≤mx→XE b er (enc z) (u=z) b' er')∧RdN b er b' er'∧MemOk X w0 [(1,.box B 115 [.slice p' (b').length c',.int .i64 er']),(2,.dat (.slice p' (b').length c') (.ns .u8 (b')))] w':=
 (x8 X B b er mx p c w0 hb hbb m0).mono fun e w' ⟨p',c',he,hm⟩=>⟨_,_,_,p',c',he,oc b er mx hmx.1,rK hmx.2,ot b er mx hbb,hm⟩
theorem wn(X B)(b:List Int)(er mx p)(c:Nat)(w0)(hb:b.length≤1000000)(hbb:BytesL b)(hmx:0≤mx∧mx≤1000000)(m0:MemOk X w0 [(1,.box B 115 [.slice p (b).length c,.int .i64 er]),(2,.dat (.slice p (b).length c) (.ns .u8 (b)))] w0) :
   Calls Tryz.prog 120 #[.pointer (some ⟨B,0,none⟩),.int .i64 mx] w0 fun e w' => ∃ (d b':List Int) (er':Int) (p':Option Addr) (c':Nat) (p3:Option Addr) (c3:Nat),e=.returned (.slice p3 d.length c3)∧(d.length:Int)≤mx∧BytesL d∧(∀ z:List Int,(z.length:Int)≤mx→XE b er (enc z.length++z) (d=z) b' er')∧RdN b er b' er'∧MemOk X w0 [(1,.box B 115 [.slice p' (b').length c',.int .i64 er']),(2,.dat (.slice p' (b').length c') (.ns .u8 (b'))),(3,.dat (.slice p3 d.length c3) (.ns .u8 d))] w':=by
 refine iZ Tryz.func120 rfl Tryz.ntmps120 fun Y U=>hC U (.assign rfl .nil) fun Y U=>zsr fun K0 hK0=>g9 U (.move rfl<|.move rfl<|.c rfl (fun _ h_=>sr h_ rfl rfl (r:=mx) (by omega))<|.conv rfl U3 jV (r:=mx) (IntWalk.u64_in _ (by omega)) .nil) fun Y U=>plz (ecl U Tryz.func65 rfl (iV _ _ b _ mx _ _ _ hb hbb ⟨hmx.1,by omega⟩ (m0.into [(1,1),(2,2)] (by decide) rfl)) ?_)
 rintro e au ⟨u,b2,er2,av,aw,rfl,hu,hxu,hq2,ae⟩
 have ah:=m0.back ae [(1,1),(2,2)] (by decide);clear ae m0
 have aa:=ah.oz [1,2]
 refine⟨_,rfl,?_⟩;intro Y U
 refine gz hK0 U (.assign rfl .nil) fun Y U=>wsk fun K1 hK1 =>?_
 replace U:=U.oz [0,4,5]
 refine hC U (.move rfl<|.nilCheck rfl<|.fa 1 rfl kH<|.lb aa 1 U3 rfl rfl rfl<|.neq rfl rfl .nil) fun Y U=>bc U 16 ?_ ?_
 ·
  intro ab U;try simp only [QQ,Qax] at ab
  have hne9:er2≠0:=by omega
  refine wct U<|hC U (.assign rfl .nil) fun Y U=>rt1 U ?_
  have ak:=aa.dat 20 rfl (Rd.nilN _ _ .u8 none)
  exact⟨[],b2,_,_,_,_,_,rfl,by simpa using hmx.1,(fun _ h=>by cases h),pG hxu hne9,hq2,ak.ren [(1,1),(2,2),(3,20)] (by decide)⟩
 intro ab U;try simp only [QQ,Qax] at ab
 refine wcf U<|zss<|hK1 _ _<|wsk fun K2 hK2=>hC U (.move rfl<|.move rfl<|.nilCheck rfl<|.fa 0 rfl kH<|.lb aa 1 U22 rfl rfl rfl<|.len rfl U22<|.conv rfl U3 jV (r:=(b2.length:Int)) (IntWalk.u64_in _ (by have:=hq2.1;omega))<|.gtr rfl rfl .nil) fun Y U=>bc U 24 ?_ ?_
 ·
  intro ac U;try simp only [QQ,Qax] at ac
  have hsh9:(b2.length:Int)<u:=by omega
  refine wct U ?_
  replace U:=U.oz [0,4,5]
  refine zsr fun K3 hK3=>g9 U (.move rfl .nil) fun Y U=>plz (ecl U Tryz.func114 rfl (j9 _ _ _ _ _ _ (aa.into [(1,1)] (by decide) rfl)) ?_)
  rintro e ax ⟨rfl,ag⟩
  have ai:=aa.back ag [(1,1)] (by decide);clear ag aa
  have al:=ai.oz [1,2]
  refine⟨_,rfl,?_⟩;intro Y U
  refine znl<|hK3 _ _<|hC U (.assign rfl .nil) fun Y U=>rt1 U ?_
  have ao:=al.dat 20 rfl (Rd.nilN _ _ .u8 none)
  have ap:=ao.dat 21 rfl (Rd.nilN _ _ .u8 none)
  exact⟨[],[],_,_,_,_,_,rfl,by simpa using hmx.1,(fun _ h=>by cases h),mD hxu hsh9,nl (by decide),ap.ren [(1,1),(2,21),(3,20)] (by decide)⟩
 intro ac U;try simp only [QQ,Qax] at ac
 obtain⟨un,hune⟩:∃ n:Nat,u=(n:Int):=⟨u.toNat,by omega⟩
 have hun:un≤b2.length:=by omega
 refine wcf U<|zss (hK2 _ _ ?_)
 replace U:=U.oz [0,4,5]
 refine zsr fun K4 hK4=>g9 U (.move rfl<|.nilCheck rfl<|.fa 0 rfl kH<|.lb aa 1 U22 rfl rfl rfl<|.move rfl .nil) fun Y U =>?_
 have ad:=(aa.rd (i:=2) rfl).ns_out.cap
 have aj:=aa.takeN (i:=2) rfl un hun 20 rfl
 refine gz hK4 U (.c rfl (fun _ h_=>ji h_ un rfl rfl U22 jw hune (Nat.le_trans hun ad.1))<|.assign rfl<|.nil) fun Y U =>?_
 replace U:=U.oz [0,4,5,6]
 refine zsr fun K5 hK5=>g9 U (.move rfl<|.move rfl<|.nilCheck rfl<|.fa 0 rfl kH<|.lb aj 1 U22 rfl rfl rfl<|.move rfl .nil) fun Y U =>?_
 have aq:=aj.dropN (i:=2) rfl un hun 21 rfl
 refine g9 U (.c rfl (fun _ h_=>iK h_ un rfl rfl U22 jw hune hun)<|.nilCheck rfl<|.fa 0 rfl kH .nil) fun Y U=>plz (st1 U aq 1 nZ fun ay ar _ =>?_)
 refine znl (hK5 _ _ ?_)
 replace U:=U.oz [4,6]
 refine hC U (.move rfl<|.assign rfl .nil) fun Y U=>rt1 U ?_
 have hl8:un=(b2.take un).length:=by rw[List.length_take];omega
 have hl9:b2.length - un=(b2.drop un).length:=by rw[List.length_drop]
 exact⟨b2.take un,b2.drop un,_,_,_,_,_,by rw[← hl8],by rw[← hl8];omega,(fun x hx=>hq2.2.1 x (List.mem_of_mem_take hx)),pH hxu hune,hq2.drop un,by rw[← hl8,← hl9];exact ar.ren [(1,1),(2,21),(3,20)] (by decide)⟩
theorem pD(X B)(b:List Int)(er p)(c:Nat)(w0)(hb:b.length≤1000000)(hbb:BytesL b)(m0:MemOk X w0 [(1,.box B 115 [.slice p (b).length c,.int .i64 er]),(2,.dat (.slice p (b).length c) (.ns .u8 (b)))] w0) :
   Calls Tryz.prog 77 #[.pointer (some ⟨B,0,none⟩)] w0 fun e w' => ∃ (pl b':List Int) (er':Int) (p':Option Addr) (c':Nat) (p3:Option Addr) (c3:Nat),e=.returned (.slice p3 pl.length c3)∧pl.length≤256∧(∀ y∈pl,(fun y:Int=>0≤y∧y≤8) y)∧(∀ z:List Int,z.length≤256→(∀ y∈z,(fun y:Int=>0≤y∧y≤8) y)→XE b er (enc z.length++z.flatMap enc) (pl=z) b' er')∧RdN b er b' er'∧MemOk X w0 [(1,.box B 115 [.slice p' (b').length c',.int .i64 er']),(2,.dat (.slice p' (b').length c') (.ns .u8 (b'))),(3,.dat (.slice p3 pl.length c3) (.ns .i64 pl))] w':=by
 refine i9 Tryz.func77 rfl Tryz.ntmps77 fun Y U=>hC U (.assign rfl .nil) fun Y U=>hC U (.assign rfl .nil) fun Y U=>zsr fun K0 hK0=>g9 U (.move rfl .nil) fun Y U=>plz (ecl U Tryz.func65 rfl (iV _ _ b _ 256 _ _ _ hb hbb (by decide) (m0.into [(1,1),(2,2)] (by decide) rfl)) ?_)
 rintro e w5 ⟨un,b2,er2,p5,c5,rfl,hu,hxu,hq2,hm5⟩
 have mx5:=m0.back hm5 [(1,1),(2,2)] (by decide);clear hm5 m0
 have m5:=mx5.oz [1,2]
 refine⟨_,rfl,?_⟩;intro Y U
 refine gz hK0 U (.assign rfl .nil) fun Y U=>wsk fun K1 hK1=>hC U (.assign rfl .nil) fun Y U=>wp_block<|wp_loop_ghost (fun g a w => ∃ (k:Nat) (pl b1:List Int) (er1:Int) (p1:Option Addr) (c1:Nat) (p3:Option Addr) (c3:Nat),pl.length=k∧(k:Int)≤un∧g=un.toNat - k∧(∀ y∈pl,(fun y:Int=>0≤y∧y≤8) y)∧RdN b er b1 er1∧XL enc (fun y:Int=>0≤y∧y≤8) 256 b er un pl b1 er1∧Has 27 [(0,.pointer (some ⟨B,0,none⟩)),(3,.slice p3 pl.length c3),(4,.int .u64 un),(5,.int .u64 (k:Int))] a∧MemOk X w0 [(1,.box B 115 [.slice p1 (b1).length c1,.int .i64 er1]),(2,.dat (.slice p1 (b1).length c1) (.ns .u8 (b1))),(9,.num (.slice p3 pl.length c3) 3 .i64 pl)] w) (un.toNat) ?_ ?_
 · have mz:=m5.nilN 9 3 .i64
   exact⟨0,[],b2,_,_,_,_,_,rfl,by omega,rfl,(fun _ h=>by cases h),hq2,XL.start hxu,U.only [0,3,4,5],mz.only [1,2,9]⟩
 clear U m5
 rintro g Y w9 ⟨k,pl,b1,er1,p1,c1,p3,c3,hlk,hku,hg,hall,hq1,hxl,U,m9⟩
 refine wsk fun K2 hK2=>zsr fun K3 hK3=>g9 U (.move rfl<|.move rfl<|.lss rfl rfl<|.move rfl .nil) fun Y U=>bc U 11 ?_ ?_
 ·
  intro aa U;try simp only [QQ,Qax] at aa
  have hku2:(k:Int)<un:=by omega
  refine gz hK3 U (.moveZ rfl<|.nilCheckZ rfl<|.faZ 1 rfl kH<|.loadB1Z m9 (i:=1) rfl rfl rfl U3 rfl<|.eqlZ rfl rfl<|.pickT rfl rfl<|.nil) fun Y U=>bc U 17 ?_ ?_
  ·
   intro ab U;try simp only [QQ,Qax] at ab
   refine wct U<|zss<|hK2 _ _<|wsk fun K4 hK4=>wp_block ?_
   replace U:=U.oz [0,3,4,5]
   refine wp_region_lit<|g9 U (.move rfl<|.move rfl .nil) fun Y U=>plz (ecl U Tryz.func65 rfl (iV _ _ b1 _ 8 _ _ _ (Nat.le_trans hq1.1 hb) hq1.2.1 (by decide) (m9.into [(1,1),(2,2)] (by decide) rfl)) ?_)
   rintro e ak ⟨uv,b3,er3,al,ao,rfl,huv,hxv,hq3,ac⟩
   have ad:=m9.back ac [(1,1),(2,2)] (by decide);clear ac m9
   have ag:=ad.oz [1,2,9]
   refine⟨_,rfl,?_⟩;intro Y U
   refine g9 U (.conv rfl jV U3 (r:=uv) (IntWalk.i64_in _ (by omega)) .nil) fun Y U=>plz<|iv U ag 100 (k:=.i64) rfl rfl U35 jI rfl rfl rfl rfl fun ap Y aq U ae=>plz<|iC U ae 9 rfl rfl rfl (ae.numsO (i:=100) rfl) U35 jI (by decide) (by simp;omega) rfl fun ar au Y av U ah=>gz hK4 U (.assign rfl .nil) fun Y U =>?_
   replace U:=U.oz [0,3,4,5]
   refine wp_region_lit<|g9 U (.move rfl<|.add rfl rfl (r:=((k+1:Nat):Int)) (by rw[IntWalk.u64_in _ (by omega)];omega)<|.assign rfl .nil) fun Y U=>wpList_nil ?_
   show ∃ n',n'<_∧_
   exact⟨un.toNat - (k+1),by omega,k+1,_,b3,_,_,_,_,_,by rw[List.length_append,hlk];rfl,by omega,rfl,mE hall huv,hq1.tr hq3,hxl.step (by omega) (fun x hx=>hxv x hx.1 hx.2),U.only [0,3,4,5],ah.only [1,2,9]⟩
  intro ab U;try simp only [QQ,Qax] at ab
  have hex9:¬ ((pl.length:Int)<un∧er1=0):=by omega
  refine wcf U<|wp_exit<|hK1 _ _ ?_
  replace U:=U.oz [0,3,4,5]
  refine hC U (.move rfl<|.assign rfl .nil) fun Y U=>rt1 U ?_
  have ai:=m9.freezeN 9 rfl
  exact⟨pl,b1,_,_,_,_,_,rfl,by omega,hall,hxl.fin hex9,hq1,ai.ren [(1,1),(2,2),(3,9)] (by decide)⟩
 intro aa U;try simp only [QQ,Qax] at aa
 have hex9:¬ ((pl.length:Int)<un∧er1=0):=by omega
 refine gz hK3 U (.sk<|.sk<|.sk<|.sk<|.sk<|.pickF rfl rfl<|.nil) fun Y U=>wcf U<|wp_exit<|hK1 _ _ ?_
 replace U:=U.oz [0,3,4,5]
 refine hC U (.move rfl<|.assign rfl .nil) fun Y U=>rt1 U ?_
 have aj:=m9.freezeN 9 rfl
 exact⟨pl,b1,_,_,_,_,_,rfl,by omega,hall,hxl.fin hex9,hq1,aj.ren [(1,1),(2,2),(3,9)] (by decide)⟩
theorem pE(X B)(b:List Int)(er p)(c:Nat)(w0)(hb:b.length≤1000000)(hbb:BytesL b)(m0:MemOk X w0 [(1,.box B 115 [.slice p (b).length c,.int .i64 er]),(2,.dat (.slice p (b).length c) (.ns .u8 (b)))] w0) :
   Calls Tryz.prog 78 #[.pointer (some ⟨B,0,none⟩)] w0 fun e w' => ∃ (es:List (Int×List Int)) (b':List Int) (er':Int) (p':Option Addr) (c':Nat) (p3:Option Addr) (c3:Nat),e=.returned (.slice p3 (es.map itD).length c3)∧es.length≤8∧(∀ e∈es,((0≤e.1∧e.1≤256)∧(e.2.length:Int)≤32)∧BytesL e.2)∧(∀ z:List (Int×List Int),z.length≤8→(∀ y∈z,(fun e:Int×List Int=>(0≤e.1∧e.1≤256)∧(e.2.length:Int)≤32) y)→XE b er (enc z.length++z.flatMap j6) (es=z) b' er')∧RdN b er b' er'∧MemOk X w0 [(1,.box B 115 [.slice p' (b').length c',.int .i64 er']),(2,.dat (.slice p' (b').length c') (.ns .u8 (b'))),(3,.dat (.slice p3 (es.map itD).length c3) (.l 2 (es.map itD)))] w':=by
 refine i9 Tryz.func78 rfl Tryz.ntmps78 fun Y U=>hC U (.assign rfl .nil) fun Y U=>hC U (.assign rfl .nil) fun Y U=>zsr fun K0 hK0=>g9 U (.move rfl .nil) fun Y U=>plz (ecl U Tryz.func65 rfl (iV _ _ b _ 8 _ _ _ hb hbb (by decide) (m0.into [(1,1),(2,2)] (by decide) rfl)) ?_)
 rintro e w5 ⟨un,b2,er2,p5,c5,rfl,hu,hxu,hq2,hm5⟩
 have mx5:=m0.back hm5 [(1,1),(2,2)] (by decide);clear hm5 m0
 have m5:=mx5.oz [1,2]
 refine⟨_,rfl,?_⟩;intro Y U
 refine gz hK0 U (.assign rfl .nil) fun Y U=>wsk fun K1 hK1=>hC U (.assign rfl .nil) fun Y U=>wp_block<|wp_loop_ghost (fun g a w => ∃ (k:Nat) (es:List (Int×List Int)) (b1:List Int) (er1:Int) (p1:Option Addr) (c1:Nat) (p3:Option Addr) (c3:Nat),es.length=k∧(k:Int)≤un∧g=un.toNat - k∧(∀ e∈es,((0≤e.1∧e.1≤256)∧(e.2.length:Int)≤32)∧BytesL e.2)∧RdN b er b1 er1∧XL j6 (fun e:Int×List Int=>(0≤e.1∧e.1≤256)∧(e.2.length:Int)≤32) 8 b er un es b1 er1∧Has 33 [(0,.pointer (some ⟨B,0,none⟩)),(3,.slice p3 (es.map itD).length c3),(4,.int .u64 un),(5,.int .u64 (k:Int))] a∧MemOk X w0 [(1,.box B 115 [.slice p1 (b1).length c1,.int .i64 er1]),(2,.dat (.slice p1 (b1).length c1) (.ns .u8 (b1))),(9,.row (.slice p3 (es.map itD).length c3) 59 2 (es.map itD))] w) (un.toNat) ?_ ?_
 · have mz:=m5.nilR 9 59 2
   exact⟨0,[],b2,_,_,_,_,_,rfl,by omega,rfl,(fun _ h=>by cases h),hq2,XL.start hxu,U.only [0,3,4,5],mz.only [1,2,9]⟩
 clear U m5
 rintro g Y w9 ⟨k,es,b1,er1,p1,c1,p3,c3,hlk,hku,hg,hall,hq1,hxl,U,m9⟩
 refine wsk fun K2 hK2=>zsr fun K3 hK3=>g9 U (.move rfl<|.move rfl<|.lss rfl rfl<|.move rfl .nil) fun Y U=>bc U 12 ?_ ?_
 ·
  intro aa U;try simp only [QQ,Qax] at aa
  have hku2:(k:Int)<un:=by omega
  refine gz hK3 U (.moveZ rfl<|.nilCheckZ rfl<|.faZ 1 rfl kH<|.loadB1Z m9 (i:=1) rfl rfl rfl U3 rfl<|.eqlZ rfl rfl<|.pickT rfl rfl<|.nil) fun Y U=>bc U 18 ?_ ?_
  ·
   intro ab U;try simp only [QQ,Qax] at ab
   refine wct U<|zss<|hK2 _ _<|wsk fun K4 hK4=>wp_block ?_
   replace U:=U.oz [0,3,4,5]
   refine zsr fun K5 hK5=>g9 U (.move rfl .nil) fun Y U=>plz (ecl U Tryz.func65 rfl (iV _ _ b1 _ 256 _ _ _ (Nat.le_trans hq1.1 hb) hq1.2.1 (by decide) (m9.into [(1,1),(2,2)] (by decide) rfl)) ?_)
   rintro e aw ⟨uv,b3,er3,ax,ay,rfl,huv,hxv,hq3,ac⟩
   have ae:=m9.back ac [(1,1),(2,2)] (by decide);clear ac m9
   have ag:=ae.oz [1,2,9]
   refine⟨_,rfl,?_⟩;intro Y U
   refine gz hK5 U (.conv rfl jV U3 (r:=uv) (IntWalk.i64_in _ (by omega))<|.assign rfl<|.nil) fun Y U=>wp_region_lit<|g9 U (.move rfl<|.move rfl<|.move rfl .nil) fun Y U=>plz (ecl U Tryz.func120 rfl (wn _ _ b3 _ 32 _ _ _ (Nat.le_trans hq3.1 (Nat.le_trans hq1.1 hb)) hq3.2.1 (by decide) (ag.into [(1,1),(2,2)] (by decide) rfl)) ?_)
   rintro e az ⟨xd,b4,er4,aA,aB,ao,ap,rfl,hxd,hbd,hxm,hq4,ad⟩
   have ah:=ag.back ad [(1,1),(2,2),(100,3)] (by decide);clear ad ag
   have ai:=ah.oz [1,2,100,9]
   refine⟨_,rfl,?_⟩;intro Y U
   refine plz<|jr U ai 101 rfl rfl (ai.nums (i:=100) rfl) U22 jU (by decide) (by omega) rfl fun aC aD Y aE U aq=>g9 U (.build rfl qJ wm rfl (by dsimp only [iY,List.set] <;> rfl) .nil) fun Y U =>?_
   have aj:=aq.freezeN 101 rfl
   refine plz (iN U aj 102 (mm:=2) rfl (.cons rfl rfl (.cons (.v _) (.cons (aj.rd (i:=101) rfl) .nil)) .nil) U36 si rfl rfl rfl rfl rfl fun aF Y aG U ar =>?_)
   have ak:=ar.freezeR 102 rfl
   refine plz<|iM U ak 9 rfl rfl rfl (ak.rd (i:=102) rfl) U36 si rfl rfl (by decide) (by simp;omega) rfl fun aH aI Y aJ U al=>gz hK4 U (.assign rfl .nil) fun Y U =>?_
   replace U:=U.oz [0,3,4,5]
   refine wp_region_lit<|g9 U (.move rfl<|.add rfl rfl (r:=((k+1:Nat):Int)) (by rw[IntWalk.u64_in _ (by omega)];omega)<|.assign rfl .nil) fun Y U=>wpList_nil ?_
   show ∃ n',n'<_∧_
   have hE:es.map itD++[[D.v (.int .i64 uv),.ns .u8 xd]]=(es++[(uv,xd)]).map itD:=by rw[List.map_append];rfl
   rw[hE] at al U
   exact⟨un.toNat - (k+1),by omega,k+1,es++[(uv,xd)],b4,_,_,_,_,_,by rw[List.length_append,hlk];rfl,by omega,rfl,mE hall ⟨⟨huv,hxd⟩,hbd⟩,hq1.tr (hq3.tr hq4),hxl.step (by omega) (fun x hx=>((hxv x.1 hx.1.1 hx.1.2).tr (hxm x.2 hx.2)).mono (fun h=>Prod.ext h.1 h.2)),U.only [0,3,4,5],al.only [1,2,9]⟩
  intro ab U;try simp only [QQ,Qax] at ab
  have hex9:¬ ((es.length:Int)<un∧er1=0):=by omega
  refine wcf U<|wp_exit<|hK1 _ _ ?_
  replace U:=U.oz [0,3,4,5]
  refine hC U (.move rfl<|.assign rfl .nil) fun Y U=>rt1 U ?_
  have au:=m9.freezeR 9 rfl
  exact⟨es,b1,_,_,_,_,_,rfl,by omega,hall,hxl.fin hex9,hq1,au.ren [(1,1),(2,2),(3,9)] (by decide)⟩
 intro aa U;try simp only [QQ,Qax] at aa
 have hex9:¬ ((es.length:Int)<un∧er1=0):=by omega
 refine gz hK3 U (.sk<|.sk<|.sk<|.sk<|.sk<|.pickF rfl rfl<|.nil) fun Y U=>wcf U<|wp_exit<|hK1 _ _ ?_
 replace U:=U.oz [0,3,4,5]
 refine hC U (.move rfl<|.assign rfl .nil) fun Y U=>rt1 U ?_
 have av:=m9.freezeR 9 rfl
 exact⟨es,b1,_,_,_,_,_,rfl,by omega,hall,hxl.fin hex9,hq1,av.ren [(1,1),(2,2),(3,9)] (by decide)⟩
end
section

end
section

end
section

end
section

end
section
def zT(es:List (Int×List Int)):Prop:=∀ e∈es,e.2.length≤1000∧BytesL e.2
end
section

end
end Go.Proofs.YtkehgingagggaaaGreat.K
