/- General laws of walks. -/
import Derived.Test.YtkehgingagggaaaGreatG7
import Derived.Test.YtkehgingagggaaaGreatG4
namespace Go.Proofs.YtkehgingagggaaaGreat.K
open Go.ChangeShapes Go.WideShapes Go.ChangeAt Go.RowKit
set_option linter.unusedVariables false
set_option linter.unusedSimpArgs false
set_option maxRecDepth 100000
set_option maxHeartbeats 4000000
set_option autoImplicit true
set_option relaxedAutoImplicit true
section
theorem nQ(es:List (Int×List (Int×List Int)))(p0 c0 nn)(w0:World)(h0:Rd (fun _=>True) w0 (.slice p0 nn c0) (.l 2 (es.map wrD)))(hl:es.length≤1000000)(hok:kK es) :
   Calls Tryz.prog 101 #[.slice p0 nn c0,.func (.func 102) #[] #[]] w0 fun e w' => ∃ p c,e=.returned (.slice p (es.map wrD).length c)∧RowOk w0.heap.size (fun b=>Out (fun _=>False) w0 b∧(Value.slice p (es.map wrD).length c).ownBlock≠some b) w' (.slice p (es.map wrD).length c) 103 2 (es.map wrD)∧Below w0.heap.size w0 w':=by
 obtain rfl:nn=es.length:=by obtain⟨pq,cq,hv,_⟩:=h0.l_shape;injection hv with _ e2 _;rw[List.length_map] at e2;exact e2
 refine iZ Tryz.func101 rfl Tryz.ntmps101 fun Y U =>?_
 have m0:=MemOk.start (fun _=>False) w0
 refine hC U (.assign rfl .nil) fun Y U=>zsr fun K0 hK0=>g9 U (.move rfl<|.len rfl U49 .nil) fun Y U=>plz (ecl U Tryz.func136 rfl (nR _ _ (by omega)) ?_)
 rintro e w6 ⟨p6,c6,rfl,ho6,hb6⟩
 have m7:=m0.newR 3 hb6 (r8 ho6)
 refine⟨_,rfl,?_⟩;intro Y U
 refine gz hK0 U (.assign rfl .nil) fun Y U=>wsk fun K1 hK1=>hC U (.move rfl<|.len rfl U49<|.move rfl .nil) fun Y U=>wp_block<|wp_loop_ghost (fun g a w => ∃ (k:Nat) (p:Option Addr) (c:Nat),k≤es.length∧g=es.length - k∧Has 25 [(1,.func (.func 102) #[] #[]),(5,.slice p ((es.take k).map wrD).length c),(11,.slice p0 es.length c0),(12,.int .i64 es.length),(13,.int .i64 k)] a∧MemOk (cn w0) w0 [(3,.row (.slice p ((es.take k).map wrD).length c) 103 2 ((es.take k).map wrD))] w) (es.length) ?_ ?_
 · exact⟨0,_,_,Nat.zero_le _,rfl,U.only [1,5,11,12,13],m7.only [3]⟩
 clear U m7
 rintro g Y aA ⟨k,p,c,hkl,hg,U,ae⟩
 refine hC U (.lss rfl rfl .nil) fun Y U=>wsk fun K2 hK2=>bc U 14 ?_ ?_
 ·
  intro ac U;try simp only [QQ,Qax] at ac
  have hk:k<es.length:=by omega
  obtain⟨⟨xs,xl⟩,hes⟩:∃ e,es[k]? = some e:=⟨_,List.getElem?_eq_getElem hk⟩
  have hed:=hok _ (List.mem_of_getElem? hes)
  dsimp only at hed
  refine wct U<|zss<|hK2 _ _<|wsk fun K3 hK3=>wp_block<|zsr fun K4 hK4 =>?_
  obtain⟨ar,au,av,ag,aw,ah,ad⟩:=h0.extA (k) (r:=[.v (.int .i64 xs),.l 2 (xl.map itD)]) (iI hes)
  revert U
  cases ag
  rcases ah with _|⟨aa,_|⟨ab,_|_⟩⟩
  obtain rfl:=aa.v_out
  clear aa
  obtain⟨aB,aC,ai,ax⟩:=ab.l_shape;subst ai
  intro U
  refine g9 U (.c rfl (fun _ h_=>ii h_ rfl rfl U49 jR (k) rfl hk)<|.loadAt (ad ae rfl) rfl j1 rfl jR .nil) fun Y U=>plz<|hZ U ae 101 qr rfl fun aD Y aE U ay _ _=>plz (stw U ay 101 jR fun aF aj _ =>?_)
  refine znl<|hK4 _ _<|wp_region_lit<|g9 U (.move rfl<|.move rfl<|.loadBR aj (i:=101) rfl rfl j1 rfl jR (by simp) (by dsimp only [List.drop,List.take] <;> rfl) .nil) fun Y U=>plz (kE U rfl Tryz.func102 rfl rfl rfl rfl (nS xs xl _ _ _ _ ((ab.now' aj rfl).any) hed.1 hed.2) ?_)
  rintro e aG ⟨aH,aI,rfl,ak,al⟩
  have ao:=aj.callF 102 rfl al ak
  refine⟨_,rfl,?_⟩;intro Y U
  refine plz (iN U ao 103 (mm:=2) rfl (.cons rfl rfl (.cons (.v _) (.cons (ao.rd (i:=102) rfl) .nil)) .nil) U49 pV rfl rfl rfl rfl rfl fun aJ Y aK U az =>?_)
  have ap:=az.freezeR 103 rfl
  refine plz<|iM U ap 3 rfl rfl rfl (ap.rd (i:=103) rfl) U49 pV rfl rfl (by decide) (by simp;omega) rfl fun aL aM Y aN U aq=>gz hK3 U (.assign rfl .nil) fun Y U =>?_
  replace U:=U.oz [1,5,11,12,13]
  refine wp_region_lit<|g9 U (.inc (k+1)<|.move rfl .nil) fun Y U=>wpList_nil ?_
  show ∃ n',n'<_∧_
  have hE:(es.take k).map wrD++[[D.v (.int .i64 xs),.l 2 (xl.map itD)]]=(es.take (k+1)).map wrD:=by rw[jG hes,List.map_append];rfl
  rw[hE] at aq U
  exact⟨es.length - (k+1),by omega,k+1,_,_,by omega,rfl,U.only [1,5,11,12,13],aq.only [3]⟩
 intro ac U;try simp only [QQ,Qax] at ac
 revert U
 obtain rfl:k=es.length:=by omega
 intro U
 refine wcf U<|wp_exit<|hK1 _ _<|hC U (.move rfl<|.assign rfl .nil) fun Y U=>rt1 U ?_
 rw[List.take_length] at *
 exact⟨_,_,rfl,ae.outR (i:=3) rfl,ae.below⟩
theorem qf(X)(vo bl sz pe to ne fl:Int)(hi)(place pins:List Int)(ws:List (Int×List (Int×List Int)))(pp pn pw:Option Addr)(cp cn9 cw:Nat)(w0)(hn:place.length≤1000000)(hp:pins.length≤1000000)(hl:ws.length≤1000000)(hok:kK ws)(m0:MemOk X w0 [(1,.dat (.slice pp place.length cp) (.ns .i64 place)),(2,.dat (.slice pn pins.length cn9) (.ns .i64 pins)),(3,.dat (.slice pw (ws.map wrD).length cw) (.l 2 (ws.map wrD)))] w0) :
   Calls Tryz.prog 52 #[.agg #[.int .i64 vo,.int .i64 bl,.int .i64 sz,.int .i64 pe,.slice pp place.length cp,.int .i64 to,.int .i64 ne,.bool hi,.int .i64 fl,.slice pn pins.length cn9,.slice pw (ws.map wrD).length cw]] w0 fun e w' => ∃ p1 c1 p2 c2 p3 c3,e=.returned (.agg #[.int .i64 vo,.int .i64 bl,.int .i64 sz,.int .i64 pe,.slice p1 place.length c1,.int .i64 to,.int .i64 ne,.bool hi,.int .i64 fl,.slice p2 pins.length c2,.slice p3 (ws.map wrD).length c3])∧MemOk X w0 [(1,.dat (.slice pp place.length cp) (.ns .i64 place)),(2,.dat (.slice pn pins.length cn9) (.ns .i64 pins)),(3,.dat (.slice pw (ws.map wrD).length cw) (.l 2 (ws.map wrD))),(4,.dat (.slice p1 place.length c1) (.ns .i64 place)),(5,.dat (.slice p2 pins.length c2) (.ns .i64 pins)),(6,.seg (.slice p3 (ws.map wrD).length c3) 103 2 (ws.map wrD))] w':=by
 refine i9 Tryz.func52 rfl Tryz.ntmps52 fun Y U=>zsr fun K0 hK0=>plz<|iu U m0 20 (cs:=[_,_,_,_,_,_,_,_,_,_,_]) rfl rfl rfl fun g1 Y w2 U m2 _ _=>plz<|hZ U m2 21 iA rfl fun g3 Y w4 U m4 _ _=>znl<|hK0 _ _<|wsk fun K1 hK1 =>?_
 have m5:=m4.oz [1,2,3,20,21]
 refine region_p 10 (B:=[(1,_),(2,_),(3,_),(20,_),(21,_)]) (m5.to i5l) m5 (by kernel_rfl) (fun w6 hP6 m6 =>?_);clear m5
 refine goR hP6 [0,1,3,4,6,7] [1,4,7] 6 0 219 U (m6.to i5l) (.fa 4 rfl U51<|.lb hh 20 U35 rfl rfl rfl<|.fa 9 rfl U51<|.lb hh 20 U48 rfl rfl rfl<|.fa 10 rfl U51<|.lb hh 20 U49 rfl rfl rfl .nil) fun Y U=>so 2 ?_
 refine ecl U Tryz.func99 rfl (kz place _ _ _ ((m6.rd (i:=1) rfl).any) hn) ?_
 rintro e ar ⟨au,av,rfl,ab,ac⟩
 have aa:=m6.callF 22 rfl ac ab
 refine⟨_,rfl,?_⟩;intro Y U
 refine⟨aa.to i5l,?_⟩
 refine goA hP6 [9] 1 223 735 U (aa.to i5l) (.fa 4 rfl U51 .nil) fun Y U=>so 5 ?_
 refine ecl U Tryz.func100 rfl (l4 pins _ _ _ ((aa.rd (i:=2) rfl).any) hp) ?_
 rintro e aw ⟨ax,ay,rfl,ad,ae⟩
 have ag:=aa.callF 23 rfl ae ad
 refine⟨_,rfl,?_⟩;intro Y U
 refine⟨ag.to i5l,?_⟩
 refine so 8 ?_
 refine ecl U Tryz.func101 rfl (nQ ws _ _ _ _ ((ag.rd (i:=3) rfl).any) hl hok) ?_
 rintro e az ⟨aA,aB,rfl,ah,ai⟩
 have ao:=ag.callR 24 ai (ah.cast (fun b h=>⟨h.1.elim False.elim .inr,h.2⟩))
 have aj:=ao.rowS 24 rfl
 refine⟨_,rfl,?_⟩;intro Y U
 refine⟨aj.to i5l,?_⟩
 refine se 10 ?_
 refine st1 U aj 20 n0 fun aC ap _ =>?_
 refine goB hP6 [11] 1 2047 4095 U (.fa 9 rfl U51 .nil) fun Y U=>se 12 ?_
 refine st1 U ap 20 lq fun aD aq _ =>?_
 refine goB hP6 [13] 1 8191 16383 U (.fa 10 rfl U51 .nil) fun Y U=>se 14 ?_
 refine st1 U aq 20 n5 fun aE ak _ =>?_
 refine wad<|hK1 _ _ ?_
 replace U:=U.oz [1,2]
 refine zsr fun K2 hK2=>g9 U (.loadBR ak (i:=20) rfl rfl U51 rfl hH (by simp) (by dsimp only [List.drop,List.take] <;> rfl) .nil) fun Y U=>plz (stw U ak 21 hH fun aF al _ =>?_)
 refine znl<|hK2 _ _<|rtd (kG (fn:=Tryz.f52) U al (i:=21) rfl rfl rfl U51 rfl hH ?_)
 exact⟨_,_,_,_,_,_,rfl,al.ren [(1,1),(2,2),(3,3),(4,22),(5,23),(6,24)] (by decide)⟩
end
section
def bD(l:List Int):List D:=[.ns .u8 l]
def yn(fi cn9:Int)(es:List (Int×List Int)):List (Int×List Int):=(es.filter (fun x=>decide (fi≤x.1∧x.1≤fi+cn9 - 1))).map (fun x=>(x.1 - fi,x.2))
end
section
def yo(L:List (List Int))(x:Int×List Int):List (List Int):=if 0≤x.1∧x.1≤(L.length:Int) - 1 then L.set x.1.toNat x.2 else L
def stW(L:List (List Int))(x:Int×List (Int×List Int)):List (List Int):=x.2.foldl yo L
end
section
def zK(fi cnt:Int)(W:List (Int×List (Int×List Int))):List (Int×List (Int×List Int)):=(W.map (fun w=>(w.1,yn fi cnt w.2))).filter (fun w=>decide (0<w.2.length))
section
variable {P:Program} {n:Nat} {T:List (Nat×Value)} {a:Act} {w:World} {d:Option Tmp} {tt:TypeId} {pos:String} {af:Array Edge} {gd:Option (Nat×Bool)}
end
end
section

end
section
theorem ug:iO Tryz.prog 51 [.int .i64 0,.int .i64 0,.int .i64 0,.int .i64 0,.slice none 0 0,.int .i64 0,.int .i64 0,.bool false,.int .i64 0,.slice none 0 0,.slice none 0 0]=true:=by kernel_rfl
theorem wq:iO Tryz.prog 59 [.int .i64 0,.slice none 0 0]=true:=by kernel_rfl
def BytesL(d:List Int):Prop:=∀ x∈d,0≤x∧x≤255
theorem qe{z:Int}(h:BytesL d)(hz:0≤z∧z≤255):BytesL (d++[z]):=fun x hx=>by
 rcases List.mem_append.1 hx with h1|h1
 · exact h x h1
 simp at h1;subst h1;exact hz
def crL(px:Int)(i:Nat):List Int:=(List.range i).map (fun j:Nat=>1+((j:Int)+px) % 2)
theorem oe(px:Int)(i):(crL px i).length=i:=by simp [crL]
theorem sO(px:Int)(i:Nat):crL px (i+1)=crL px i++[1+((i:Int)+px) % 2]:=by simp [crL,List.range_succ]
theorem xi(px:Int)(i):∀ g∈crL px i,1≤g∧g≤7:=fun g hg=>by
 obtain⟨j,-,rfl⟩:=List.mem_map.1 hg
 omega
def ItsB(es:List (Int×List Int)):Prop:=∀ e∈es,e.2.length≤1000000∧BytesL e.2
theorem ItsB.ok(h:ItsB es):j3 es:=fun e he=>Nat.le_trans (h e he).1 (by decide)
theorem rS{b:Int}{d:List Int}(h:ItsB es)(h1:d.length≤1000000)(h2:BytesL d):ItsB (es++[(b,d)]):=fun e he=>by
 rcases List.mem_append.1 he with h3|h3
 · exact h e h3
 simp at h3;subst h3;exact⟨h1,h2⟩
theorem rT{bl sz:Int}{it:List (Int×List Int)}{b:Int}{d:List Int}(h:l9 bl sz it it.length)(hb:0≤b∧b<bl)(hs:(d.length:Int)=sz)(hn:¬ ∃ e∈it,e.1=b):l9 bl sz (it++[(b,d)]) (it.length+1):=fun j hj=>by
 rcases Nat.lt_or_ge j it.length with h1|h1
 · have h2:=h j h1
   rw[show(it++[(b,d)]).getD j i0=it.getD j i0 by simp [List.getD,List.getElem?_append,h1],List.take_append_of_le_length (by omega)]
   exact h2
 obtain rfl:j=it.length:=by omega
 rw[show(it++[(b,d)]).getD it.length i0=(b,d) by simp [List.getD],List.take_left]
 exact⟨hb.1,hb.2,hs,hn⟩
theorem mH{it:List (Int×List Int)}{b yb:Int}(h:tb=true↔∃ e∈it.take j,e.1=b)(hit:it[j]? = some (yb,yd)):(tb || decide (yb=b))=true↔∃ e∈it.take (j+1),e.1=b:=by
 rw[jG hit,Bool.or_eq_true,h,decide_eq_true_eq]
 constructor
 · rintro(⟨e,h1,h2⟩|h1)
   · exact⟨e,List.mem_append_left _ h1,h2⟩
   exact⟨_,List.mem_append_right _ (List.mem_singleton.2 rfl),h1⟩
 rintro⟨e,h1,h2⟩
 rcases List.mem_append.1 h1 with h3|h3
 · exact .inl ⟨e,h3,h2⟩
 simp at h3;subst h3;exact .inr h2
theorem wt(xs:List Int)(p1 p2 c1 c2)(w0:World)(hx:xs.length≤1000000)(h1:Rd (fun _=>True) w0 (.slice p1 xs.length c1) (.ns .i64 xs))(h2:Rd (fun _=>True) w0 (.slice p2 xs.length c2) (.ns .i64 xs)) :
   Calls Tryz.prog 103 #[.slice p1 xs.length c1,.slice p2 xs.length c2] w0 fun e w'=>e=.returned (.bool true)∧Below w0.heap.size w0 w':=by
 refine iZ Tryz.func103 rfl Tryz.ntmps103 fun Y U =>?_
 have m0:=MemOk.start (fun _=>False) w0
 refine hC U (.assign rfl .nil) fun Y U=>wsk fun K0 hK0=>hC U (.move rfl<|.len rfl U35<|.move rfl<|.len rfl U35<|.neq rfl rfl .nil) fun Y U=>bcF U 10 fun U=>wcf U<|zss<|hK0 _ _<|wsk fun K1 hK1=>hC U (.assign rfl .nil) fun Y U=>wp_block<|wp_loop_ghost (fun g a w => ∃ k:Nat,k≤xs.length∧g=xs.length - k∧Has 26 [(0,.slice p1 xs.length c1),(1,.slice p2 xs.length c2),(5,.int .i64 k)] a∧MemOk (cn w0) w0 [] w) (xs.length) ?_ ?_
 · exact⟨0,Nat.zero_le _,rfl,U.only [0,1,5],m0.only []⟩
 clear U m0
 rintro g Y w9 ⟨k,hkl,hg,U,m9⟩
 refine wsk fun K2 hK2=>hC U (.move rfl<|.move rfl<|.len rfl U35<|.lss rfl rfl .nil) fun Y U=>bc U 14 ?_ ?_
 ·
  intro aa U;try simp only [QQ,Qax] at aa
  have hk:k<xs.length:=by omega
  refine wct U<|zss<|hK2 _ _<|wsk fun K3 hK3=>wp_block<|wsk fun K4 hK4 =>?_
  obtain⟨aj,ak,ad,al,ab⟩:=h1.extN (k) hk
  revert U
  cases ad
  intro U
  obtain⟨ao,ap,ae,aq,ac⟩:=h2.extN (k) hk
  revert U
  cases ae
  intro U
  have ag:MemOk _ _ [] _:=m9.only [];clear m9
  refine region_p 9 (B:=[]) (ag.to trivial) ag (by kernel_rfl) (fun ar ah ai =>?_);clear ag
  refine goR ah [0,1,2,3,4,5,6,7,8] [3,7] 9 0 511 U (ai.to trivial) (.move rfl<|.move rfl<|.p (fun _ _ h_=>ii h_ rfl rfl U35 iG (k) rfl hk)<|.loadAt1 (fun _ h_=>(ab h_ rfl)) (q:=0) rfl rfl rfl U3 rfl<|.move rfl<|.move rfl<|.p (fun _ _ h_=>ii h_ rfl rfl U35 iG (k) rfl hk)<|.loadAt1 (fun _ h_=>(ac h_ rfl)) (q:=0) rfl rfl rfl U3 rfl<|.neq rfl rfl .nil) fun Y U=>wad<|hK4 _ _<|bcF U 25 fun U=>wcf U<|zss (hK3 _ _ ?_)
  replace U:=U.oz [0,1,5]
  refine wp_region_lit<|g9 U (.move rfl<|.inc (k+1)<|.assign rfl .nil) fun Y U=>wpList_nil ?_
  show ∃ n',n'<_∧_
  exact⟨xs.length - (k+1),by omega,k+1,by omega,rfl,U.only [0,1,5],ai.only []⟩
 intro aa U;try simp only [QQ,Qax] at aa
 revert U
 obtain rfl:k=xs.length:=by omega
 intro U
 refine wcf U<|wp_exit<|hK1 _ _<|hC U (.assign rfl .nil) fun Y U=>rt1 U ?_
 exact⟨by simp,m9.below⟩
theorem wu(xs:List Int)(p1 p2 c1 c2)(w0:World)(hx:xs.length≤1000000)(h1:Rd (fun _=>True) w0 (.slice p1 xs.length c1) (.ns .i64 xs))(h2:Rd (fun _=>True) w0 (.slice p2 xs.length c2) (.ns .i64 xs)) :
   Calls Tryz.prog 54 #[.slice p1 xs.length c1,.slice p2 xs.length c2] w0 fun e w'=>e=.returned (.bool true)∧Below w0.heap.size w0 w':=by
 refine iZ Tryz.func54 rfl Tryz.ntmps54 fun Y U =>?_
 have m0:=MemOk.start (fun _=>False) w0
 refine hC U (.assign rfl .nil) fun Y U=>wsk fun K0 hK0=>hC U (.move rfl<|.len rfl U48<|.move rfl<|.len rfl U48<|.neq rfl rfl .nil) fun Y U=>bcF U 10 fun U=>wcf U<|zss<|hK0 _ _<|wsk fun K1 hK1=>hC U (.assign rfl .nil) fun Y U=>wp_block<|wp_loop_ghost (fun g a w => ∃ k:Nat,k≤xs.length∧g=xs.length - k∧Has 26 [(0,.slice p1 xs.length c1),(1,.slice p2 xs.length c2),(5,.int .i64 k)] a∧MemOk (cn w0) w0 [] w) (xs.length) ?_ ?_
 · exact⟨0,Nat.zero_le _,rfl,U.only [0,1,5],m0.only []⟩
 clear U m0
 rintro g Y w9 ⟨k,hkl,hg,U,m9⟩
 refine wsk fun K2 hK2=>hC U (.move rfl<|.move rfl<|.len rfl U48<|.lss rfl rfl .nil) fun Y U=>bc U 14 ?_ ?_
 ·
  intro aa U;try simp only [QQ,Qax] at aa
  have hk:k<xs.length:=by omega
  refine wct U<|zss<|hK2 _ _<|wsk fun K3 hK3=>wp_block<|wsk fun K4 hK4 =>?_
  obtain⟨aj,ak,ad,al,ab⟩:=h1.extN (k) hk
  revert U
  cases ad
  intro U
  obtain⟨ao,ap,ae,aq,ac⟩:=h2.extN (k) hk
  revert U
  cases ae
  intro U
  have ag:MemOk _ _ [] _:=m9.only [];clear m9
  refine region_p 9 (B:=[]) (ag.to trivial) ag (by kernel_rfl) (fun ar ah ai =>?_);clear ag
  refine goR ah [0,1,2,3,4,5,6,7,8] [3,7] 9 0 511 U (ai.to trivial) (.move rfl<|.move rfl<|.p (fun _ _ h_=>ii h_ rfl rfl U48 iP (k) rfl hk)<|.loadAt1 (fun _ h_=>(ab h_ rfl)) (q:=0) rfl rfl rfl U2 rfl<|.move rfl<|.move rfl<|.p (fun _ _ h_=>ii h_ rfl rfl U48 iP (k) rfl hk)<|.loadAt1 (fun _ h_=>(ac h_ rfl)) (q:=0) rfl rfl rfl U2 rfl<|.neq rfl rfl .nil) fun Y U=>wad<|hK4 _ _<|bcF U 25 fun U=>wcf U<|zss (hK3 _ _ ?_)
  replace U:=U.oz [0,1,5]
  refine wp_region_lit<|g9 U (.move rfl<|.inc (k+1)<|.assign rfl .nil) fun Y U=>wpList_nil ?_
  show ∃ n',n'<_∧_
  exact⟨xs.length - (k+1),by omega,k+1,by omega,rfl,U.only [0,1,5],ai.only []⟩
 intro aa U;try simp only [QQ,Qax] at aa
 revert U
 obtain rfl:k=xs.length:=by omega
 intro U
 refine wcf U<|wp_exit<|hK1 _ _<|hC U (.assign rfl .nil) fun Y U=>rt1 U ?_
 exact⟨by simp,m9.below⟩
theorem mt(es:List (Int×List Int))(p1 p2 n1 n2 c1 c2)(w0:World)(h1:Rd (fun _=>True) w0 (.slice p1 n1 c1) (.l 2 (es.map itD)))(h2:Rd (fun _=>True) w0 (.slice p2 n2 c2) (.l 2 (es.map itD)))(hl:es.length≤1000000) :
   Calls Tryz.prog 80 #[.slice p1 n1 c1,.slice p2 n2 c2] w0 fun e w'=>e=.returned (.bool true)∧Below w0.heap.size w0 w':=by
 obtain rfl:n1=es.length:=by obtain⟨pq,cq,hv,_⟩:=h1.l_shape;injection hv with _ e2 _;rw[List.length_map] at e2;exact e2
 obtain rfl:n2=es.length:=by obtain⟨pq,cq,hv,_⟩:=h2.l_shape;injection hv with _ e2 _;rw[List.length_map] at e2;exact e2
 refine iZ Tryz.func80 rfl Tryz.ntmps80 fun Y U =>?_
 have m0:=MemOk.start (fun _=>False) w0
 refine hC U (.assign rfl .nil) fun Y U=>wsk fun K0 hK0=>hC U (.move rfl<|.len rfl U36<|.move rfl<|.len rfl U36<|.neq rfl rfl .nil) fun Y U=>bcF U 10 fun U=>wcf U<|zss<|hK0 _ _<|wsk fun K1 hK1=>hC U (.assign rfl .nil) fun Y U=>wp_block<|wp_loop_ghost (fun g a w => ∃ k:Nat,k≤es.length∧g=es.length - k∧Has 43 [(0,.slice p1 es.length c1),(1,.slice p2 es.length c2),(5,.int .i64 k)] a∧MemOk (cn w0) w0 [] w) (es.length) ?_ ?_
 · exact⟨0,Nat.zero_le _,rfl,U.only [0,1,5],m0.only []⟩
 clear U m0
 rintro g Y w9 ⟨k,hkl,hg,U,m9⟩
 refine wsk fun K2 hK2=>hC U (.move rfl<|.move rfl<|.len rfl U36<|.lss rfl rfl .nil) fun Y U=>bc U 14 ?_ ?_
 ·
  intro ah U;try simp only [QQ,Qax] at ah
  have hk:k<es.length:=by omega
  obtain⟨⟨xb,xd⟩,hes⟩:∃ e,es[k]? = some e:=⟨_,List.getElem?_eq_getElem hk⟩
  refine wct U<|zss<|hK2 _ _<|wsk fun K3 hK3=>wp_block<|wsk fun K4 hK4 =>?_
  obtain⟨aH,aI,aJ,ar,aK,au,ak⟩:=h1.extA (k) (r:=[.v (.int .i64 xb),.ns .u8 xd]) (iB hes)
  revert U
  cases ar
  rcases au with _|⟨aa,_|⟨ai,_|_⟩⟩
  obtain rfl:=aa.v_out
  clear aa
  obtain⟨a1,a2,av,aL⟩:=ai.ns_shape;subst av
  intro U
  obtain⟨aM,aN,aO,aw,aP,ax,al⟩:=h2.extA (k) (r:=[.v (.int .i64 xb),.ns .u8 xd]) (iB hes)
  revert U
  cases aw
  rcases ax with _|⟨ab,_|⟨aj,_|_⟩⟩
  obtain rfl:=ab.v_out
  clear ab
  obtain⟨a3,a4,ay,aQ⟩:=aj.ns_shape;subst ay
  intro U
  obtain⟨aR,aS,aT,az,aU,aA,ao⟩:=h1.extA (k) (r:=[.v (.int .i64 xb),.ns .u8 xd]) (iB hes)
  revert U
  cases az
  rcases aA with _|⟨ac,_|⟨ad,_|_⟩⟩
  obtain rfl:=ac.v_out
  clear ac
  obtain⟨a5,a6,aB,aV⟩:=ad.ns_shape;subst aB
  intro U
  obtain⟨aW,aX,aY,aC,aZ,aD,ap⟩:=h2.extA (k) (r:=[.v (.int .i64 xb),.ns .u8 xd]) (iB hes)
  revert U
  cases aC
  rcases aD with _|⟨ae,_|⟨ag,_|_⟩⟩
  obtain rfl:=ae.v_out
  clear ae
  obtain⟨a7,a8,aE,a0⟩:=ag.ns_shape;subst aE
  intro U
  have aF:MemOk _ _ [] _:=m9.only [];clear m9
  refine region_p 26 (B:=[]) (aF.to trivial) aF (by kernel_rfl) (fun a9 aq aG =>?_);clear aF
  refine goR aq [0,1,2,3,4,5,6,7,8,9,10,11] [4,9] 12 0 4095 U (aG.to trivial) (.move rfl<|.move rfl<|.p (fun _ _ h_=>ii h_ rfl rfl U36 jA (k) rfl hk)<|.fieldAddrQ 0 rfl U59 rfl (s:=0) (by kernel_rfl) rfl<|.loadAt1 (fun _ h_=>(ak h_ rfl)) (q:=0) rfl rfl rfl U3 rfl<|.move rfl<|.move rfl<|.p (fun _ _ h_=>ii h_ rfl rfl U36 jA (k) rfl hk)<|.fieldAddrQ 0 rfl U59 rfl (s:=0) (by kernel_rfl) rfl<|.loadAt1 (fun _ h_=>(al h_ rfl)) (q:=0) rfl rfl rfl U3 rfl<|.neq rfl rfl<|.move rfl .nil) fun Y U=>bcF U 28 fun U=>goR aq [12,13,14,15,16,17,18,19,20,21,22,23,24,25] [16,17,22,23] 14 4095 67108863 U (aG.to trivial) (.move rfl<|.move rfl<|.p (fun _ _ h_=>ii h_ rfl rfl U36 jA (k) rfl hk)<|.fieldAddrQ 1 rfl U59 rfl (s:=0) (by kernel_rfl) rfl<|.loadAt1 (fun _ h_=>(ao h_ rfl)) (q:=1) rfl rfl rfl U22 rfl<|.str rfl (fun _ h_=>(ad.now' h_ rfl).ns_out.nums) U22 U5 U9<|.move rfl<|.move rfl<|.p (fun _ _ h_=>ii h_ rfl rfl U36 jA (k) rfl hk)<|.fieldAddrQ 1 rfl U59 rfl (s:=0) (by kernel_rfl) rfl<|.loadAt1 (fun _ h_=>(ap h_ rfl)) (q:=1) rfl rfl rfl U22 rfl<|.str rfl (fun _ h_=>(ag.now' h_ rfl).ns_out.nums) U22 U5 U9<|.neqS rfl rfl<|.pickF rfl rfl .nil) fun Y U=>wad<|hK4 _ _<|bcF U 42 fun U=>wcf U<|zss (hK3 _ _ ?_)
  replace U:=U.oz [0,1,5]
  refine wp_region_lit<|g9 U (.move rfl<|.inc (k+1)<|.assign rfl .nil) fun Y U=>wpList_nil ?_
  show ∃ n',n'<_∧_
  exact⟨es.length - (k+1),by omega,k+1,by omega,rfl,U.only [0,1,5],aG.only []⟩
 intro ah U;try simp only [QQ,Qax] at ah
 revert U
 obtain rfl:k=es.length:=by omega
 intro U
 refine wcf U<|wp_exit<|hK1 _ _<|hC U (.assign rfl .nil) fun Y U=>rt1 U ?_
 exact⟨by simp,m9.below⟩
theorem oI(es:List (Int×List (Int×List Int)))(p1 p2 n1 n2 c1 c2)(w0:World)(h1:Rd (fun _=>True) w0 (.slice p1 n1 c1) (.l 2 (es.map wrD)))(h2:Rd (fun _=>True) w0 (.slice p2 n2 c2) (.l 2 (es.map wrD)))(hl:es.length≤1000000)(hl2:∀ e∈es,e.2.length≤1000000) :
   Calls Tryz.prog 55 #[.slice p1 n1 c1,.slice p2 n2 c2] w0 fun e w'=>e=.returned (.bool true)∧Below w0.heap.size w0 w':=by
 obtain rfl:n1=es.length:=by obtain⟨pq,cq,hv,_⟩:=h1.l_shape;injection hv with _ e2 _;rw[List.length_map] at e2;exact e2
 obtain rfl:n2=es.length:=by obtain⟨pq,cq,hv,_⟩:=h2.l_shape;injection hv with _ e2 _;rw[List.length_map] at e2;exact e2
 refine iZ Tryz.func55 rfl Tryz.ntmps55 fun Y U =>?_
 have m0:=MemOk.start (fun _=>False) w0
 refine hC U (.assign rfl .nil) fun Y U=>wsk fun K0 hK0=>hC U (.move rfl<|.len rfl U49<|.move rfl<|.len rfl U49<|.neq rfl rfl .nil) fun Y U=>bcF U 10 fun U=>wcf U<|zss<|hK0 _ _<|wsk fun K1 hK1=>hC U (.assign rfl .nil) fun Y U=>wp_block<|wp_loop_ghost (fun g a w => ∃ k:Nat,k≤es.length∧g=es.length - k∧Has 42 [(0,.slice p1 es.length c1),(1,.slice p2 es.length c2),(5,.int .i64 k)] a∧MemOk (cn w0) w0 [] w) (es.length) ?_ ?_
 · exact⟨0,Nat.zero_le _,rfl,U.only [0,1,5],m0.only []⟩
 clear U m0
 rintro g Y w9 ⟨k,hkl,hg,U,m9⟩
 refine wsk fun K2 hK2=>hC U (.move rfl<|.move rfl<|.len rfl U49<|.lss rfl rfl .nil) fun Y U=>bc U 14 ?_ ?_
 ·
  intro ah U;try simp only [QQ,Qax] at ah
  have hk:k<es.length:=by omega
  obtain⟨⟨xs,xl⟩,hes⟩:∃ e,es[k]? = some e:=⟨_,List.getElem?_eq_getElem hk⟩
  refine wct U<|zss<|hK2 _ _<|wsk fun K3 hK3=>wp_block<|wsk fun K4 hK4 =>?_
  obtain⟨aJ,aK,aL,au,aM,av,al⟩:=h1.extA (k) (r:=[.v (.int .i64 xs),.l 2 (xl.map itD)]) (iI hes)
  revert U
  cases au
  rcases av with _|⟨aa,_|⟨ai,_|_⟩⟩
  obtain rfl:=aa.v_out
  clear aa
  obtain⟨a3,a4,aw,aN⟩:=ai.l_shape;subst aw
  intro U
  obtain⟨aO,aP,aQ,ax,aR,ay,ao⟩:=h2.extA (k) (r:=[.v (.int .i64 xs),.l 2 (xl.map itD)]) (iI hes)
  revert U
  cases ax
  rcases ay with _|⟨ab,_|⟨aj,_|_⟩⟩
  obtain rfl:=ab.v_out
  clear ab
  obtain⟨a5,a6,az,aS⟩:=aj.l_shape;subst az
  intro U
  obtain⟨aT,aU,aV,aA,aW,aB,ap⟩:=h1.extA (k) (r:=[.v (.int .i64 xs),.l 2 (xl.map itD)]) (iI hes)
  revert U
  cases aA
  rcases aB with _|⟨ac,_|⟨ad,_|_⟩⟩
  obtain rfl:=ac.v_out
  clear ac
  obtain⟨a7,a8,aC,aX⟩:=ad.l_shape;subst aC
  intro U
  obtain⟨aY,aZ,a0,aD,a1,aE,aq⟩:=h2.extA (k) (r:=[.v (.int .i64 xs),.l 2 (xl.map itD)]) (iI hes)
  revert U
  cases aD
  rcases aE with _|⟨ae,_|⟨ag,_|_⟩⟩
  obtain rfl:=ae.v_out
  clear ae
  obtain⟨a9,ba,aF,a2⟩:=ag.l_shape;subst aF
  intro U
  have aG:MemOk _ _ [] _:=m9.only [];clear m9
  refine region_p 25 (B:=[]) (aG.to trivial) aG (by kernel_rfl) (fun bb ak ar =>?_);clear aG
  refine goR ak [0,1,2,3,4,5,6,7,8,9,10,11] [4,9] 12 0 4095 U (ar.to trivial) (.move rfl<|.move rfl<|.p (fun _ _ h_=>ii h_ rfl rfl U49 jR (k) rfl hk)<|.fieldAddrQ 0 rfl j1 rfl (s:=0) (by kernel_rfl) rfl<|.loadAt1 (fun _ h_=>(al h_ rfl)) (q:=0) rfl rfl rfl U2 rfl<|.move rfl<|.move rfl<|.p (fun _ _ h_=>ii h_ rfl rfl U49 jR (k) rfl hk)<|.fieldAddrQ 0 rfl j1 rfl (s:=0) (by kernel_rfl) rfl<|.loadAt1 (fun _ h_=>(ao h_ rfl)) (q:=0) rfl rfl rfl U2 rfl<|.neq rfl rfl<|.move rfl .nil) fun Y U=>bcF U 28 fun U=>goR ak [12,13,14,15,16,17,18,19,20,21] [16,21] 10 4095 4194303 U (ar.to trivial) (.move rfl<|.move rfl<|.p (fun _ _ h_=>ii h_ rfl rfl U49 jR (k) rfl hk)<|.fieldAddrQ 1 rfl j1 rfl (s:=0) (by kernel_rfl) rfl<|.loadAt1 (fun _ h_=>(ap h_ rfl)) (q:=1) rfl rfl rfl U36 rfl<|.move rfl<|.move rfl<|.p (fun _ _ h_=>ii h_ rfl rfl U49 jR (k) rfl hk)<|.fieldAddrQ 1 rfl j1 rfl (s:=0) (by kernel_rfl) rfl<|.loadAt1 (fun _ h_=>(aq h_ rfl)) (q:=1) rfl rfl rfl U36 rfl .nil) fun Y U=>ig 22 rfl (by kernel_rfl) (iq U rfl rfl rfl rfl)<|fun K hK=>iw U Tryz.func80 rfl rfl rfl rfl (mt xl _ _ _ _ _ _ _ ((ad.now' ar rfl).any) ((ag.now' ar rfl).any) (hl2 _ (List.mem_of_getElem? hes))) ?_
  rintro e bd ⟨rfl,aH⟩
  have aI:=ar.later aH
  refine⟨_,rfl,?_⟩;intro Y U
  refine hK _ _ (aI.to trivial) ?_;clear hK K
  refine goA ak [23,24] 2 8388607 33554431 U (aI.to trivial) (.not rfl<|.pickF rfl rfl .nil) fun Y U=>wad<|hK4 _ _<|wcf U<|zss (hK3 _ _ ?_)
  replace U:=U.oz [0,1,5]
  refine wp_region_lit<|g9 U (.move rfl<|.inc (k+1)<|.assign rfl .nil) fun Y U=>wpList_nil ?_
  show ∃ n',n'<_∧_
  exact⟨es.length - (k+1),by omega,k+1,by omega,rfl,U.only [0,1,5],aI.only []⟩
 intro ah U;try simp only [QQ,Qax] at ah
 revert U
 obtain rfl:k=es.length:=by omega
 intro U
 refine wcf U<|wp_exit<|hK1 _ _<|hC U (.assign rfl .nil) fun Y U=>rt1 U ?_
 exact⟨by simp,m9.below⟩
theorem oJ(vo bl sz pe to ne fl ne2 fl2:Int)(hi)(place:List Int)(hi2)(pp pn pw qp qn qw:Option Addr)(cp cq nn cn nw cw mn dn mw dw:Nat)(w0:World)(hn:place.length≤1000000)(h1:Rd (fun _=>True) w0 (.slice pp place.length cp) (.ns .i64 place))(h4:Rd (fun _=>True) w0 (.slice qp place.length cq) (.ns .i64 place)) :
   Calls Tryz.prog 53 #[.agg #[.int .i64 vo,.int .i64 bl,.int .i64 sz,.int .i64 pe,.slice pp place.length cp,.int .i64 to,.int .i64 ne,.bool hi,.int .i64 fl,.slice pn nn cn,.slice pw nw cw],.agg #[.int .i64 vo,.int .i64 bl,.int .i64 sz,.int .i64 pe,.slice qp place.length cq,.int .i64 to,.int .i64 ne2,.bool hi2,.int .i64 fl2,.slice qn mn dn,.slice qw mw dw]] w0 fun e w'=>e=.returned (.bool true)∧Below w0.heap.size w0 w':=by
 refine iZ Tryz.func53 rfl Tryz.ntmps53 fun Y U =>?_
 have m0:=MemOk.start (fun _=>False) w0
 refine zsr fun K0 hK0=>plz<|iu U m0 20 (cs:=[_,_,_,_,_,_,_,_,_,_,_]) rfl rfl rfl fun g1 Y w2 U m2 _ _=>plz<|iu U m2 21 (cs:=[_,_,_,_,_,_,_,_,_,_,_]) rfl rfl rfl fun g3 Y w4 U m4 _ _=>gz hK0 U (.assign rfl .nil) fun Y U=>zsr fun K1 hK1=>g9 U (.fa 0 rfl U51<|.lb m4 20 U3 rfl rfl rfl<|.fa 0 rfl U51<|.lb m4 21 U3 rfl rfl rfl<|.eql rfl rfl<|.move rfl .nil) fun Y U=>bcT U 10 fun U=>g9 U (.faZ 1 rfl U51<|.loadB1Z m4 (i:=20) rfl rfl rfl U3 rfl<|.faZ 1 rfl U51<|.loadB1Z m4 (i:=21) rfl rfl rfl U3 rfl<|.eqlZ rfl rfl<|.pickT rfl rfl<|.move rfl .nil) fun Y U=>bcT U 17 fun U=>g9 U (.faZ 2 rfl U51<|.loadB1Z m4 (i:=20) rfl rfl rfl U3 rfl<|.faZ 2 rfl U51<|.loadB1Z m4 (i:=21) rfl rfl rfl U3 rfl<|.eqlZ rfl rfl<|.pickT rfl rfl<|.move rfl .nil) fun Y U=>bcT U 24 fun U=>g9 U (.faZ 3 rfl U51<|.loadB1Z m4 (i:=20) rfl rfl rfl U3 rfl<|.faZ 3 rfl U51<|.loadB1Z m4 (i:=21) rfl rfl rfl U3 rfl<|.eqlZ rfl rfl<|.pickT rfl rfl<|.move rfl .nil) fun Y U=>bcT U 31 fun U=>g9 U (.faZ 4 rfl U51<|.loadB1Z m4 (i:=20) rfl rfl rfl U35 rfl<|.faZ 4 rfl U51<|.loadB1Z m4 (i:=21) rfl rfl rfl U35 rfl .nil) fun Y U=>stz U (ecb U Tryz.func103 rfl m4 (wt place _ _ _ _ _ hn ((h1.now' m4 rfl).any) ((h4.now' m4 rfl).any)) fun Y ab U aa =>?_)
 refine gz hK1 U (.pickT rfl rfl<|.move rfl<|.faZ 5 rfl U51<|.loadB1Z aa (i:=20) rfl rfl rfl U3 rfl<|.faZ 5 rfl U51<|.loadB1Z aa (i:=21) rfl rfl rfl U3 rfl<|.eqlZ rfl rfl<|.pickT rfl rfl<|.assign rfl<|.nil) fun Y U=>rt1 U ?_
 exact⟨by simp,aa.below⟩
theorem rB(vo bl sz pe to ne fl:Int)(hi)(place pins:List Int)(ws:List (Int×List (Int×List Int)))(pp pn pw qp qn qw:Option Addr)(cp cn9 nw cw cq dn mw dw:Nat)(w0:World)(hn:place.length≤1000000)(hp:pins.length≤1000000)(hl:ws.length≤1000000)(hl2:∀ e∈ws,e.2.length≤1000000)(h1:Rd (fun _=>True) w0 (.slice pp place.length cp) (.ns .i64 place))(h2:Rd (fun _=>True) w0 (.slice pn pins.length cn9) (.ns .i64 pins))(h3:Rd (fun _=>True) w0 (.slice pw nw cw) (.l 2 (ws.map wrD)))(h4:Rd (fun _=>True) w0 (.slice qp place.length cq) (.ns .i64 place))(h5:Rd (fun _=>True) w0 (.slice qn pins.length dn) (.ns .i64 pins))(h6:Rd (fun _=>True) w0 (.slice qw mw dw) (.l 2 (ws.map wrD))) :
   Calls Tryz.prog 20 #[.agg #[.int .i64 vo,.int .i64 bl,.int .i64 sz,.int .i64 pe,.slice pp place.length cp,.int .i64 to,.int .i64 ne,.bool hi,.int .i64 fl,.slice pn pins.length cn9,.slice pw nw cw],.agg #[.int .i64 vo,.int .i64 bl,.int .i64 sz,.int .i64 pe,.slice qp place.length cq,.int .i64 to,.int .i64 ne,.bool hi,.int .i64 fl,.slice qn pins.length dn,.slice qw mw dw]] w0 fun e w'=>e=.returned (.bool true)∧Below w0.heap.size w0 w':=by
 refine iZ Tryz.func20 rfl Tryz.ntmps20 fun Y U =>?_
 have m0:=MemOk.start (fun _=>False) w0
 refine zsr fun K0 hK0=>plz<|iu U m0 20 (cs:=[_,_,_,_,_,_,_,_,_,_,_]) rfl rfl rfl fun g1 Y w2 U m2 _ _=>plz<|iu U m2 21 (cs:=[_,_,_,_,_,_,_,_,_,_,_]) rfl rfl rfl fun g3 Y w4 U m4 _ _=>gz hK0 U (.assign rfl .nil) fun Y U=>zsr fun K1 hK1=>g9 U (.loadBR m4 (i:=20) rfl rfl U51 rfl hH (by simp) (by dsimp only [List.drop,List.take] <;> rfl)<|.loadBR m4 (i:=21) rfl rfl U51 rfl hH (by simp) (by dsimp only [List.drop,List.take] <;> rfl) .nil) fun Y U=>plz<|ecb U Tryz.func53 rfl m4 (oJ _ _ _ _ _ _ _ _ _ _ place _ _ _ _ _ _ _ _ _ _ _ _ _ _ _ _ _ _ hn ((h1.now' m4 rfl).any) ((h4.now' m4 rfl).any)) fun Y ad U aa=>g9 U (.move rfl<|.faZ 6 rfl U51<|.loadB1Z aa (i:=20) rfl rfl rfl U3 rfl<|.faZ 6 rfl U51<|.loadB1Z aa (i:=21) rfl rfl rfl U3 rfl<|.eqlZ rfl rfl<|.pickT rfl rfl<|.move rfl .nil) fun Y U=>bcT U 15 fun U=>g9 U (.faZ 7 rfl U51<|.loadB1Z aa (i:=20) rfl rfl rfl U4 rfl<|.faZ 7 rfl U51<|.loadB1Z aa (i:=21) rfl rfl rfl U4 rfl<|.eqlBZ rfl rfl U4<|.pickT rfl rfl<|.move rfl .nil) fun Y U=>bcT U 22 fun U=>g9 U (.faZ 8 rfl U51<|.loadB1Z aa (i:=20) rfl rfl rfl U2 rfl<|.faZ 8 rfl U51<|.loadB1Z aa (i:=21) rfl rfl rfl U2 rfl<|.eqlZ rfl rfl<|.pickT rfl rfl<|.move rfl .nil) fun Y U=>bcT U 29 fun U=>g9 U (.faZ 9 rfl U51<|.loadB1Z aa (i:=20) rfl rfl rfl U48 rfl<|.faZ 9 rfl U51<|.loadB1Z aa (i:=21) rfl rfl rfl U48 rfl .nil) fun Y U=>stz U (ecb U Tryz.func54 rfl aa (wu pins _ _ _ _ _ hp ((h2.now' aa rfl).any) ((h5.now' aa rfl).any)) fun Y ae U ab =>?_)
 refine g9 U (.pickT rfl rfl<|.move rfl<|.faZ 10 rfl U51<|.loadB1Z ab (i:=20) rfl rfl rfl U49 rfl<|.faZ 10 rfl U51<|.loadB1Z ab (i:=21) rfl rfl rfl U49 rfl .nil) fun Y U=>stz U (ecb U Tryz.func55 rfl ab (oI ws _ _ _ _ _ _ _ ((h3.now' ab rfl).any) ((h6.now' ab rfl).any) hl hl2) fun Y ag U ac =>?_)
 refine gz hK1 U (.pickT rfl rfl<|.assign rfl<|.nil) fun Y U=>rt1 U ?_
 exact⟨by simp,ac.below⟩
theorem mI(kd vo bl sz pe to at0 ix:Int)(place:List Int)(pp pi)(cp ni ci:Nat)(w0:World)(h0:Rd (fun _=>True) w0 (.slice pp place.length cp) (.ns .i64 place))(hn:place.length≤1000000) :
   Calls Tryz.prog 97 #[.agg #[.int .i64 kd,.int .i64 vo,.int .i64 bl,.int .i64 sz,.int .i64 pe,.slice pp place.length cp,.int .i64 to,.int .i64 at0,.int .i64 ix,.slice pi ni ci]] w0 fun e w' => ∃ b:Bool,e=.returned (.bool b)∧(b=true↔iQ vo bl sz pe to place)∧Below w0.heap.size w0 w':=by
 refine i9 Tryz.func97 rfl Tryz.ntmps97 fun Y U =>?_
 have m0:=MemOk.start (fun _=>False) w0
 refine zsr fun K0 hK0=>plz<|iu U m0 20 (cs:=[_,_,_,_,_,_,_,_,_,_]) rfl rfl rfl fun g1 Y w2 U m2 _ _=>gz hK0 U (.assign rfl .nil) fun Y U=>wsk fun K1 hK1=>wsk fun K2 hK2 =>?_
 have m4:=m2.oz [20]
 refine region_p 61 (B:=[(20,_)]) (m4.to i1l) m4 (by kernel_rfl) (fun w5 hP5 m5 =>?_);clear m4
 refine goR hP5 [0,1,2,3] [1] 4 0 15 U (m5.to i1l) (.fa 1 rfl U38<|.lb hh 20 U3 rfl rfl rfl<|.lss rfl rfl<|.move rfl .nil) fun Y U=>bc U 7 ?_ ?_
 ·
  intro ax U;try simp only [QQ,Qax] at ax
  refine goA hP5 [4,5,6,7,8,9,10,11,12,13,14,15,16,17,18,19,20,21,22,23,24,25,26,27,28,29,30,31,32,33,34,35,36,37,38,39,40,41,42,43,44,45,46,47,48,49,50,51,52,53,54,55,56,57,58,59,60] 57 15 2305843009213693951 U (m5.to i1l) (.s<|.s<|.s<|.pickT rfl rfl<|.move rfl<|.s<|.s<|.s<|.pickT rfl rfl<|.move rfl<|.s<|.s<|.s<|.pickT rfl rfl<|.move rfl<|.s<|.s<|.s<|.pickT rfl rfl<|.move rfl<|.s<|.s<|.s<|.pickT rfl rfl<|.move rfl<|.s<|.s<|.s<|.pickT rfl rfl<|.move rfl<|.s<|.s<|.s<|.s<|.s<|.pickT rfl rfl<|.move rfl<|.s<|.s<|.s<|.s<|.s<|.s<|.s<|.s<|.s<|.pickT rfl rfl<|.move rfl<|.s<|.s<|.s<|.pickT rfl rfl<|.move rfl<|.s<|.s<|.s<|.pickT rfl rfl .nil) fun Y U=>wad<|hK2 _ _<|wct U ?_
  replace U:=U.oz [1,2]
  refine hC U (.assign rfl .nil) fun Y U=>rt1 U ?_
  exact⟨false,rfl,iff_of_false (by simp) (fun h=>by obtain⟨h1,h2,h3,h4,h5,h6,h7,h8,⟨h9,ac⟩,ad,ae⟩:=h;first|omega|(have ag:=h9 _ (iy hk);omega)),m5.below⟩
 intro ax U;try simp only [QQ,Qax] at ax
 refine goR hP5 [4,5,6,7,8] [5] 5 15 511 U (m5.to i1l) (.fa 1 rfl U38<|.lb hh 20 U3 rfl rfl rfl<|.geq rfl rfl<|.pickF rfl rfl<|.move rfl .nil) fun Y U=>bc U 12 ?_ ?_
 ·
  intro ay U;try simp only [QQ,Qax] at ay
  refine goA hP5 [9,10,11,12,13,14,15,16,17,18,19,20,21,22,23,24,25,26,27,28,29,30,31,32,33,34,35,36,37,38,39,40,41,42,43,44,45,46,47,48,49,50,51,52,53,54,55,56,57,58,59,60] 52 511 2305843009213693951 U (m5.to i1l) (.s<|.s<|.s<|.pickT rfl rfl<|.move rfl<|.s<|.s<|.s<|.pickT rfl rfl<|.move rfl<|.s<|.s<|.s<|.pickT rfl rfl<|.move rfl<|.s<|.s<|.s<|.pickT rfl rfl<|.move rfl<|.s<|.s<|.s<|.pickT rfl rfl<|.move rfl<|.s<|.s<|.s<|.s<|.s<|.pickT rfl rfl<|.move rfl<|.s<|.s<|.s<|.s<|.s<|.s<|.s<|.s<|.s<|.pickT rfl rfl<|.move rfl<|.s<|.s<|.s<|.pickT rfl rfl<|.move rfl<|.s<|.s<|.s<|.pickT rfl rfl .nil) fun Y U=>wad<|hK2 _ _<|wct U ?_
  replace U:=U.oz [1,2]
  refine hC U (.assign rfl .nil) fun Y U=>rt1 U ?_
  exact⟨false,rfl,iff_of_false (by simp) (fun h=>by obtain⟨h1,h2,h3,h4,h5,h6,h7,h8,⟨h9,ac⟩,ad,ae⟩:=h;first|omega|(have ag:=h9 _ (iy hk);omega)),m5.below⟩
 intro ay U;try simp only [QQ,Qax] at ay
 refine goR hP5 [9,10,11,12,13] [10] 5 511 16383 U (m5.to i1l) (.fa 2 rfl U38<|.lb hh 20 U3 rfl rfl rfl<|.lss rfl rfl<|.pickF rfl rfl<|.move rfl .nil) fun Y U=>bc U 17 ?_ ?_
 ·
  intro ah U;try simp only [QQ,Qax] at ah
  refine goA hP5 [14,15,16,17,18,19,20,21,22,23,24,25,26,27,28,29,30,31,32,33,34,35,36,37,38,39,40,41,42,43,44,45,46,47,48,49,50,51,52,53,54,55,56,57,58,59,60] 47 16383 2305843009213693951 U (m5.to i1l) (.s<|.s<|.s<|.pickT rfl rfl<|.move rfl<|.s<|.s<|.s<|.pickT rfl rfl<|.move rfl<|.s<|.s<|.s<|.pickT rfl rfl<|.move rfl<|.s<|.s<|.s<|.pickT rfl rfl<|.move rfl<|.s<|.s<|.s<|.s<|.s<|.pickT rfl rfl<|.move rfl<|.s<|.s<|.s<|.s<|.s<|.s<|.s<|.s<|.s<|.pickT rfl rfl<|.move rfl<|.s<|.s<|.s<|.pickT rfl rfl<|.move rfl<|.s<|.s<|.s<|.pickT rfl rfl .nil) fun Y U=>wad<|hK2 _ _<|wct U ?_
  replace U:=U.oz [1,2]
  refine hC U (.assign rfl .nil) fun Y U=>rt1 U ?_
  exact⟨false,rfl,iff_of_false (by simp) (fun h=>by obtain⟨h1,h2,h3,h4,h5,h6,h7,h8,⟨h9,ac⟩,ad,ae⟩:=h;first|omega|(have ag:=h9 _ (iy hk);omega)),m5.below⟩
 intro ah U;try simp only [QQ,Qax] at ah
 refine goR hP5 [14,15,16,17,18] [15] 5 16383 524287 U (m5.to i1l) (.fa 2 rfl U38<|.lb hh 20 U3 rfl rfl rfl<|.gtr rfl rfl<|.pickF rfl rfl<|.move rfl .nil) fun Y U=>bc U 22 ?_ ?_
 ·
  intro ai U;try simp only [QQ,Qax] at ai
  refine goA hP5 [19,20,21,22,23,24,25,26,27,28,29,30,31,32,33,34,35,36,37,38,39,40,41,42,43,44,45,46,47,48,49,50,51,52,53,54,55,56,57,58,59,60] 42 524287 2305843009213693951 U (m5.to i1l) (.s<|.s<|.s<|.pickT rfl rfl<|.move rfl<|.s<|.s<|.s<|.pickT rfl rfl<|.move rfl<|.s<|.s<|.s<|.pickT rfl rfl<|.move rfl<|.s<|.s<|.s<|.s<|.s<|.pickT rfl rfl<|.move rfl<|.s<|.s<|.s<|.s<|.s<|.s<|.s<|.s<|.s<|.pickT rfl rfl<|.move rfl<|.s<|.s<|.s<|.pickT rfl rfl<|.move rfl<|.s<|.s<|.s<|.pickT rfl rfl .nil) fun Y U=>wad<|hK2 _ _<|wct U ?_
  replace U:=U.oz [1,2]
  refine hC U (.assign rfl .nil) fun Y U=>rt1 U ?_
  exact⟨false,rfl,iff_of_false (by simp) (fun h=>by obtain⟨h1,h2,h3,h4,h5,h6,h7,h8,⟨h9,ac⟩,ad,ae⟩:=h;first|omega|(have ag:=h9 _ (iy hk);omega)),m5.below⟩
 intro ai U;try simp only [QQ,Qax] at ai
 refine goR hP5 [19,20,21,22,23] [20] 5 524287 16777215 U (m5.to i1l) (.fa 3 rfl U38<|.lb hh 20 U3 rfl rfl rfl<|.lss rfl rfl<|.pickF rfl rfl<|.move rfl .nil) fun Y U=>bc U 27 ?_ ?_
 ·
  intro aj U;try simp only [QQ,Qax] at aj
  refine goA hP5 [24,25,26,27,28,29,30,31,32,33,34,35,36,37,38,39,40,41,42,43,44,45,46,47,48,49,50,51,52,53,54,55,56,57,58,59,60] 37 16777215 2305843009213693951 U (m5.to i1l) (.s<|.s<|.s<|.pickT rfl rfl<|.move rfl<|.s<|.s<|.s<|.pickT rfl rfl<|.move rfl<|.s<|.s<|.s<|.s<|.s<|.pickT rfl rfl<|.move rfl<|.s<|.s<|.s<|.s<|.s<|.s<|.s<|.s<|.s<|.pickT rfl rfl<|.move rfl<|.s<|.s<|.s<|.pickT rfl rfl<|.move rfl<|.s<|.s<|.s<|.pickT rfl rfl .nil) fun Y U=>wad<|hK2 _ _<|wct U ?_
  replace U:=U.oz [1,2]
  refine hC U (.assign rfl .nil) fun Y U=>rt1 U ?_
  exact⟨false,rfl,iff_of_false (by simp) (fun h=>by obtain⟨h1,h2,h3,h4,h5,h6,h7,h8,⟨h9,ac⟩,ad,ae⟩:=h;first|omega|(have ag:=h9 _ (iy hk);omega)),m5.below⟩
 intro aj U;try simp only [QQ,Qax] at aj
 refine goR hP5 [24,25,26,27,28] [25] 5 16777215 536870911 U (m5.to i1l) (.fa 3 rfl U38<|.lb hh 20 U3 rfl rfl rfl<|.gtr rfl rfl<|.pickF rfl rfl<|.move rfl .nil) fun Y U=>bc U 32 ?_ ?_
 ·
  intro ak U;try simp only [QQ,Qax] at ak
  refine goA hP5 [29,30,31,32,33,34,35,36,37,38,39,40,41,42,43,44,45,46,47,48,49,50,51,52,53,54,55,56,57,58,59,60] 32 536870911 2305843009213693951 U (m5.to i1l) (.s<|.s<|.s<|.pickT rfl rfl<|.move rfl<|.s<|.s<|.s<|.s<|.s<|.pickT rfl rfl<|.move rfl<|.s<|.s<|.s<|.s<|.s<|.s<|.s<|.s<|.s<|.pickT rfl rfl<|.move rfl<|.s<|.s<|.s<|.pickT rfl rfl<|.move rfl<|.s<|.s<|.s<|.pickT rfl rfl .nil) fun Y U=>wad<|hK2 _ _<|wct U ?_
  replace U:=U.oz [1,2]
  refine hC U (.assign rfl .nil) fun Y U=>rt1 U ?_
  exact⟨false,rfl,iff_of_false (by simp) (fun h=>by obtain⟨h1,h2,h3,h4,h5,h6,h7,h8,⟨h9,ac⟩,ad,ae⟩:=h;first|omega|(have ag:=h9 _ (iy hk);omega)),m5.below⟩
 intro ak U;try simp only [QQ,Qax] at ak
 refine goR hP5 [29,30,31,32,33] [30] 5 536870911 17179869183 U (m5.to i1l) (.fa 4 rfl U38<|.lb hh 20 U3 rfl rfl rfl<|.lss rfl rfl<|.pickF rfl rfl<|.move rfl .nil) fun Y U=>bc U 37 ?_ ?_
 ·
  intro al U;try simp only [QQ,Qax] at al
  refine goA hP5 [34,35,36,37,38,39,40,41,42,43,44,45,46,47,48,49,50,51,52,53,54,55,56,57,58,59,60] 27 17179869183 2305843009213693951 U (m5.to i1l) (.s<|.s<|.s<|.s<|.s<|.pickT rfl rfl<|.move rfl<|.s<|.s<|.s<|.s<|.s<|.s<|.s<|.s<|.s<|.pickT rfl rfl<|.move rfl<|.s<|.s<|.s<|.pickT rfl rfl<|.move rfl<|.s<|.s<|.s<|.pickT rfl rfl .nil) fun Y U=>wad<|hK2 _ _<|wct U ?_
  replace U:=U.oz [1,2]
  refine hC U (.assign rfl .nil) fun Y U=>rt1 U ?_
  exact⟨false,rfl,iff_of_false (by simp) (fun h=>by obtain⟨h1,h2,h3,h4,h5,h6,h7,h8,⟨h9,ac⟩,ad,ae⟩:=h;first|omega|(have ag:=h9 _ (iy hk);omega)),m5.below⟩
 intro al U;try simp only [QQ,Qax] at al
 refine goR hP5 [34,35,36,37,38,39,40] [35,37] 7 17179869183 2199023255551 U (m5.to i1l) (.fa 4 rfl U38<|.lb hh 20 U3 rfl rfl rfl<|.fa 2 rfl U38<|.lb hh 20 U3 rfl rfl rfl<|.gtr rfl rfl<|.pickF rfl rfl<|.move rfl .nil) fun Y U=>bc U 44 ?_ ?_
 ·
  intro ao U;try simp only [QQ,Qax] at ao
  refine goA hP5 [41,42,43,44,45,46,47,48,49,50,51,52,53,54,55,56,57,58,59,60] 20 2199023255551 2305843009213693951 U (m5.to i1l) (.s<|.s<|.s<|.s<|.s<|.s<|.s<|.s<|.s<|.pickT rfl rfl<|.move rfl<|.s<|.s<|.s<|.pickT rfl rfl<|.move rfl<|.s<|.s<|.s<|.pickT rfl rfl .nil) fun Y U=>wad<|hK2 _ _<|wct U ?_
  replace U:=U.oz [1,2]
  refine hC U (.assign rfl .nil) fun Y U=>rt1 U ?_
  exact⟨false,rfl,iff_of_false (by simp) (fun h=>by obtain⟨h1,h2,h3,h4,h5,h6,h7,h8,⟨h9,ac⟩,ad,ae⟩:=h;first|omega|(have ag:=h9 _ (iy hk);omega)),m5.below⟩
 intro ao U;try simp only [QQ,Qax] at ao
 refine goR hP5 [41,42,43,44,45,46,47] [42,45,47] 7 2199023255551 281474976710655 U (m5.to i1l) (.fa 5 rfl U38<|.lb hh 20 U35 rfl rfl rfl<|.len rfl U35<|.fa 2 rfl U38<|.lb hh 20 U3 rfl rfl rfl<|.fa 4 rfl U38<|.lb hh 20 U3 rfl rfl rfl .nil) fun Y U=>ig 48 rfl (by kernel_rfl) (iq U rfl rfl rfl rfl)<|fun K hK=>iw U Tryz.func91 rfl rfl rfl rfl (mg bl pe _ (by omega) (by omega)) ?_
 rintro e aK ⟨rfl,aB⟩
 have aa:=m5.later aB
 refine⟨_,rfl,?_⟩;intro Y U
 refine hK _ _ (aa.to i1l) ?_;clear hK K
 refine goA hP5 [49,50,51] 3 562949953421311 4503599627370495 U (aa.to i1l) (.neq rfl rfl<|.pickF rfl rfl<|.move rfl .nil) fun Y U=>bc U 55 ?_ ?_
 ·
  intro ap U;try simp only [QQ,Qax] at ap
  refine goA hP5 [52,53,54,55,56,57,58,59,60] 9 4503599627370495 2305843009213693951 U (aa.to i1l) (.s<|.s<|.s<|.pickT rfl rfl<|.move rfl<|.s<|.s<|.s<|.pickT rfl rfl .nil) fun Y U=>wad<|hK2 _ _<|wct U ?_
  replace U:=U.oz [1,2]
  refine hC U (.assign rfl .nil) fun Y U=>rt1 U ?_
  exact⟨false,rfl,iff_of_false (by simp) (fun h=>by obtain⟨h1,h2,h3,h4,h5,h6,h7,h8,⟨h9,ac⟩,ad,ae⟩:=h;first|omega|(have ag:=h9 _ (iy hk);omega)),aa.below⟩
 intro ap U;try simp only [QQ,Qax] at ap
 refine goR hP5 [52,53,54,55,56] [53] 5 4503599627370495 144115188075855871 U (aa.to i1l) (.fa 6 rfl U38<|.lb hh 20 U3 rfl rfl rfl<|.lss rfl rfl<|.pickF rfl rfl<|.move rfl .nil) fun Y U=>bc U 60 ?_ ?_
 ·
  intro aq U;try simp only [QQ,Qax] at aq
  refine goA hP5 [57,58,59,60] 4 144115188075855871 2305843009213693951 U (aa.to i1l) (.s<|.s<|.s<|.pickT rfl rfl .nil) fun Y U=>wad<|hK2 _ _<|wct U ?_
  replace U:=U.oz [1,2]
  refine hC U (.assign rfl .nil) fun Y U=>rt1 U ?_
  exact⟨false,rfl,iff_of_false (by simp) (fun h=>by obtain⟨h1,h2,h3,h4,h5,h6,h7,h8,⟨h9,ac⟩,ad,ae⟩:=h;first|omega|(have ag:=h9 _ (iy hk);omega)),aa.below⟩
 intro aq U;try simp only [QQ,Qax] at aq
 refine goR hP5 [57,58,59,60] [58] 4 144115188075855871 2305843009213693951 U (aa.to i1l) (.fa 6 rfl U38<|.lb hh 20 U3 rfl rfl rfl<|.gtr rfl rfl<|.pickF rfl rfl .nil) fun Y U=>wad<|hK2 _ _<|bc U 64 ?_ ?_
 ·
  intro ar U;try simp only [QQ,Qax] at ar
  refine wct U ?_
  replace U:=U.oz [1,2]
  refine hC U (.assign rfl .nil) fun Y U=>rt1 U ?_
  exact⟨false,rfl,iff_of_false (by simp) (fun h=>by obtain⟨h1,h2,h3,h4,h5,h6,h7,h8,⟨h9,ac⟩,ad,ae⟩:=h;first|omega|(have ag:=h9 _ (iy hk);omega)),aa.below⟩
 intro ar U;try simp only [QQ,Qax] at ar
 refine wcf U<|zss<|hK1 _ _<|wsk fun K3 hK3 =>?_
 replace U:=U.oz [1,2]
 refine hC U (.assign rfl .nil) fun Y U=>wp_block<|wp_loop_ghost (fun g a w => ∃ (k B:Nat),k≤place.length∧g=place.length - k∧(∀ j,j<k→1≤place.getD j 0∧place.getD j 0≤7)∧Has 86 [(1,.pointer (some ⟨B,0,none⟩)),(3,.int .i64 k)] a∧MemOk (cn w0) w0 [(9,.box B 38 [.int .i64 kd,.int .i64 vo,.int .i64 bl,.int .i64 sz,.int .i64 pe,.slice pp place.length cp,.int .i64 to,.int .i64 at0,.int .i64 ix,.slice pi ni ci])] w) (place.length) ?_ ?_
 · exact⟨0,_,Nat.zero_le _,rfl,(fun j hj=>by omega),U.only [1,3],aa.ren [(9,20)] (by decide)⟩
 clear U aa
 rintro g Y aL ⟨k,B,hkl,hg,hall,U,ab⟩
 refine wsk fun K4 hK4=>hC U (.move rfl<|.fa 5 rfl U38<|.lb ab 9 U35 rfl rfl rfl<|.len rfl U35<|.lss rfl rfl .nil) fun Y U=>bc U 69 ?_ ?_
 ·
  intro au U;try simp only [QQ,Qax] at au
  have hk:k<place.length:=by omega
  refine wct U<|zss<|hK4 _ _<|wsk fun K5 hK5=>wp_block<|zsr fun K6 hK6=>g9 U (.fa 5 rfl U38<|.lb ab 9 U35 rfl rfl rfl<|.move rfl .nil) fun Y U =>?_
  obtain⟨aE,aF,aC,aG,az⟩:=h0.extN (k) hk
  revert U
  cases aC
  intro U
  refine g9 U (.c rfl (fun _ h_=>ii h_ rfl rfl U35 iG (k) rfl hk)<|.loadAt1 (az ab rfl) (q:=0) rfl rfl rfl U3 rfl<|.lss rfl rfl<|.move rfl .nil) fun Y U=>bc U 78 ?_ ?_
  ·
   intro av U;try simp only [QQ,Qax] at av
   refine gz hK6 U (.sk<|.sk<|.sk<|.sk<|.sk<|.sk<|.pickT rfl rfl<|.nil) fun Y U=>wct U ?_
   replace U:=U.oz [1,3]
   refine hC U (.assign rfl .nil) fun Y U=>rt1 U ?_
   exact⟨false,rfl,iff_of_false (by simp) (fun h=>by obtain⟨h1,h2,h3,h4,h5,h6,h7,h8,⟨h9,ac⟩,ad,ae⟩:=h;first|omega|(have ag:=h9 _ (iy hk);omega)),ab.below⟩
  intro av U;try simp only [QQ,Qax] at av
  refine g9 U (.faZ 5 rfl U38<|.loadB1Z ab (i:=9) rfl rfl rfl U35 rfl<|.moveZ rfl .nil) fun Y U =>?_
  obtain⟨aH,aI,aD,aJ,aA⟩:=h0.extN (k) hk
  revert U
  cases aD
  intro U
  refine gz hK6 U (.g rfl rfl rfl rfl (fun _ h_=>ii h_ rfl rfl U35 iG (k) rfl hk)<|.loadAt1Z (aA ab rfl) (q:=0) rfl rfl rfl U3 rfl<|.geqZ rfl rfl<|.pickF rfl rfl<|.nil) fun Y U=>bc U 85 ?_ ?_
  ·
   intro aw U;try simp only [QQ,Qax] at aw
   refine wct U ?_
   replace U:=U.oz [1,3]
   refine hC U (.assign rfl .nil) fun Y U=>rt1 U ?_
   exact⟨false,rfl,iff_of_false (by simp) (fun h=>by obtain⟨h1,h2,h3,h4,h5,h6,h7,h8,⟨h9,ac⟩,ad,ae⟩:=h;first|omega|(have ag:=h9 _ (iy hk);omega)),ab.below⟩
  intro aw U;try simp only [QQ,Qax] at aw
  refine wcf U<|zss (hK5 _ _ ?_)
  replace U:=U.oz [1,3]
  refine wp_region_lit<|g9 U (.move rfl<|.inc (k+1)<|.assign rfl .nil) fun Y U=>wpList_nil ?_
  show ∃ n',n'<_∧_
  exact⟨place.length - (k+1),by omega,k+1,_,by omega,rfl,(pK (P:=fun x=>1≤x∧x≤7) hall (by omega)),U.only [1,3],ab.only [9]⟩
 intro au U;try simp only [QQ,Qax] at au
 revert U
 obtain rfl:k=place.length:=by omega
 intro U
 refine wcf U<|wp_exit<|hK3 _ _<|hC U (.assign rfl .nil) fun Y U=>rt1 U ?_
 exact⟨true,rfl,iff_of_true rfl ⟨by omega,by omega,by omega,by omega,by omega,by omega,by omega,by omega,⟨fun g hg9=>rQ (P:=fun x=>1≤x∧x≤7) hall g hg9,by omega⟩,by omega,by omega⟩,ab.below⟩
theorem pM(kd vo bl sz pe to at0 ix:Int)(place:List Int)(pp pi)(cp ni ci:Nat)(w0:World)(h0:Rd (fun _=>True) w0 (.slice pp place.length cp) (.ns .i64 place))(hn:place.length≤1000000) :
   Calls Tryz.prog 50 #[.agg #[.int .i64 kd,.int .i64 vo,.int .i64 bl,.int .i64 sz,.int .i64 pe,.slice pp place.length cp,.int .i64 to,.int .i64 at0,.int .i64 ix,.slice pi ni ci]] w0 fun e w'=>(iQ vo bl sz pe to place∧∃ p c,e=.returned (.tuple #[.agg #[.int .i64 vo,.int .i64 bl,.int .i64 sz,.int .i64 pe,.slice p place.length c,.int .i64 to,.int .i64 0,.bool (decide (0<to)),.int .i64 0,.slice none 0 0,.slice none 0 0],.int .i64 0])∧Rd (New w0) w' (.slice p place.length c) (.ns .i64 place)∧Below w0.heap.size w0 w')∨(¬ iQ vo bl sz pe to place∧e=.returned (.tuple #[.agg #[.int .i64 0,.int .i64 0,.int .i64 0,.int .i64 0,.slice none 0 0,.int .i64 0,.int .i64 0,.bool false,.int .i64 0,.slice none 0 0,.slice none 0 0],.int .i64 23])∧Below w0.heap.size w0 w'):=by
 refine i9 Tryz.func50 rfl Tryz.ntmps50 fun Y U =>?_
 have m0:=MemOk.start (fun _=>False) w0
 refine zsr fun K0 hK0=>plz<|iu U m0 20 (cs:=[_,_,_,_,_,_,_,_,_,_]) rfl rfl rfl fun g1 Y w2 U m2 _ _=>plz<|hZ U m2 21 iA rfl fun g3 Y w4 U m4 _ _=>gz hK0 U (.assign rfl .nil) fun Y U=>wsk fun K1 hK1=>zsr fun K2 hK2=>g9 U (.loadBR m4 (i:=20) rfl rfl U38 rfl ip (by simp) (by dsimp only [List.drop,List.take] <;> rfl) .nil) fun Y U=>plz (ecl U Tryz.func97 rfl (mI _ _ _ _ _ _ _ _ place _ _ _ _ _ _ ((h0.now' m4 rfl).any) hn) ?_)
 rintro e w8 ⟨sb,rfl,hsb,hb8⟩
 have m9:=m4.later hb8
 refine⟨_,rfl,?_⟩;intro Y U
 refine gz hK2 U (.not rfl .nil) fun Y U=>bc U 6 ?_ ?_
 ·
  intro aa U;try simp only [QQ,Qax] at aa
  refine wct U<|zsr fun K3 hK3=>g9 U (.build rfl iA ug rfl (by dsimp only [iY,List.set] <;> rfl) .nil) fun Y U=>plz (stw U m9 21 hH fun aj ah _ =>?_)
  refine gz hK3 U (.assign rfl .nil) fun Y U=>rtd (iF (fn:=Tryz.f50) U ah (i:=21) rfl rfl rfl rfl U51 rfl hH ?_)
  exact .inr ⟨fun h=>by have ak:=hsb.2 h;simp_all,rfl,ah.below⟩
 intro aa U;try simp only [QQ,Qax] at aa
 refine wcf U<|zss<|hK1 _ _<|wsk fun K4 hK4 =>?_
 have ad:=m9.oz [20,21]
 refine region_p 19 (B:=[(20,_)]) (ad.to i1l) ad (by kernel_rfl) (fun al ab ae =>?_);clear ad
 refine goR ab [0,1,2,3,4,5,6,7,8,9,11,12,13,14,15] [1,3,5,7,9,12,14] 15 0 64511 U (ae.to i1l) (.fa 1 rfl U38<|.lb hh 20 U3 rfl rfl rfl<|.fa 2 rfl U38<|.lb hh 20 U3 rfl rfl rfl<|.fa 3 rfl U38<|.lb hh 20 U3 rfl rfl rfl<|.fa 4 rfl U38<|.lb hh 20 U3 rfl rfl rfl<|.fa 5 rfl U38<|.lb hh 20 U35 rfl rfl rfl<|.fa 6 rfl U38<|.lb hh 20 U3 rfl rfl rfl<|.fa 6 rfl U38<|.lb hh 20 U3 rfl rfl rfl<|.gtr rfl rfl .nil) fun Y U=>so 10 ?_
 refine jr U ae 22 rfl rfl (h0.now' ae rfl).ns_out.nums U35 jI (by decide) (by omega) rfl fun ao ap Y aq U ag=>⟨ag.to i1l,?_⟩
 refine goA ab [16] 1 65535 131071 U (ag.to i1l) (.build rfl iA ug rfl (by dsimp only [iY,List.set] <;> rfl) .nil) fun Y U=>so 17 ?_
 refine stw U ag 21 hH fun ar ac _ =>?_
 refine⟨ac.to i1l,?_⟩
 refine goA ab [18] 1 262143 524287 U (ac.to i1l) (.assign rfl .nil) fun Y U=>wad<|hK4 _ _<|rtd (iF (fn:=Tryz.f50) U ac (i:=21) rfl rfl rfl rfl U51 rfl hH ?_)
 have ai:=ac.freezeN 22 rfl
 exact .inl ⟨hsb.1 (by simp_all),_,_,rfl,ai.outF (i:=22) rfl,ai.below⟩
theorem sQ(kd vo bl sz pe to at0 ix:Int)(place:List Int)(pp pi)(cp ni ci:Nat)(w0:World)(h0:Rd (fun _=>True) w0 (.slice pp place.length cp) (.ns .i64 place))(hn:place.length≤1000000)(hN:iQ vo bl sz pe to place) :
   Calls Tryz.prog 50 #[.agg #[.int .i64 kd,.int .i64 vo,.int .i64 bl,.int .i64 sz,.int .i64 pe,.slice pp place.length cp,.int .i64 to,.int .i64 at0,.int .i64 ix,.slice pi ni ci]] w0 fun e w' => ∃ p c,e=.returned (.tuple #[.agg #[.int .i64 vo,.int .i64 bl,.int .i64 sz,.int .i64 pe,.slice p place.length c,.int .i64 to,.int .i64 0,.bool (decide (0<to)),.int .i64 0,.slice none 0 0,.slice none 0 0],.int .i64 0])∧Rd (New w0) w' (.slice p place.length c) (.ns .i64 place)∧Below w0.heap.size w0 w':=
 (pM kd vo bl sz pe to at0 ix place pp pi cp ni ci w0 h0 hn).mono (fun _ _ h=>h.elim (fun h=>h.2) (fun h=>absurd hN h.1))
theorem tJ(n:Nat)(b:Int)(w0:World)(hn:n≤1000000)(hb:0≤b∧b≤255) :
   Calls Tryz.prog 131 #[.int .i64 (n:Int),.int .u8 b] w0 fun e w' => ∃ (d:List Int) (p:Option Addr) (c:Nat),e=.returned (.slice p n c)∧d.length=n∧BytesL d∧Rd (New w0) w' (.slice p n c) (.ns .u8 d)∧Below w0.heap.size w0 w':=by
 refine iZ Tryz.func131 rfl Tryz.ntmps131 fun Y U =>?_
 have m0:=MemOk.start (fun _=>False) w0
 refine hC U (.assign rfl .nil) fun Y U=>hC U (.assign rfl .nil) fun Y U=>wsk fun K0 hK0=>hC U (.assign rfl .nil) fun Y U=>wp_block<|wp_loop_ghost (fun g a w => ∃ (k:Nat) (d:List Int) (p:Option Addr) (c:Nat),k≤n∧g=n - k∧d.length=k∧BytesL d∧Has 21 [(0,.int .i64 (n:Int)),(1,.int .u8 b),(5,.slice p d.length c),(6,.int .i64 k)] a∧MemOk (cn w0) w0 [(9,.num (.slice p d.length c) 5 .u8 d)] w) (n) ?_ ?_
 · have mz:=m0.nilN 9 5 .u8
   exact⟨0,[],_,_,Nat.zero_le _,rfl,rfl,(fun _ h=>by cases h),U.only [0,1,5,6],mz.only [9]⟩
 clear U m0
 rintro g Y w4 ⟨k,d,p,c,hkl,hg,hdl,hdb,U,m4⟩
 refine wsk fun K1 hK1=>hC U (.move rfl<|.move rfl<|.lss rfl rfl .nil) fun Y U=>bc U 9 ?_ ?_
 ·
  intro hb8 U;try simp only [QQ,Qax] at hb8
  have hk:k<n:=by omega
  obtain⟨z,hz,hzb⟩:∃ z,IntKind.u8.wrap (b+IntKind.u8.wrap (IntKind.u8.wrap (k:Int)*7))=z∧0≤z∧z≤255:=⟨_,rfl,uH _⟩
  refine wct U<|zss<|hK1 _ _<|wsk fun K2 hK2=>wp_block<|wp_region_lit<|g9 U (.move rfl<|.move rfl<|.move rfl<|.conv rfl U3 U5 rfl<|.mul rfl rfl rfl<|.add rfl rfl (r:=z) hz .nil) fun Y U=>plz<|iv U m4 100 (k:=.u8) rfl rfl U22 jU rfl rfl rfl rfl fun ad Y ae U aa=>plz<|iC U aa 9 rfl rfl rfl (aa.numsO (i:=100) rfl) U22 jU (by decide) (by simp;omega) rfl fun ag ah Y ai U ac=>gz hK2 U (.assign rfl .nil) fun Y U =>?_
  replace U:=U.oz [0,1,5,6]
  refine wp_region_lit<|g9 U (.move rfl<|.inc (k+1)<|.assign rfl .nil) fun Y U=>wpList_nil ?_
  show ∃ n',n'<_∧_
  exact⟨n - (k+1),by omega,k+1,d++[z],_,_,by omega,rfl,by simp [hdl],qe hdb hzb,U.only [0,1,5,6],ac.only [9]⟩
 intro hb8 U;try simp only [QQ,Qax] at hb8
 revert U
 obtain rfl:k=n:=by omega
 intro U
 refine wcf U<|wp_exit<|hK0 _ _<|hC U (.move rfl<|.assign rfl .nil) fun Y U=>rt1 U ?_
 have ab:=m4.freezeN 9 rfl
 exact⟨_,_,_,by rw[hdl],hdl,hdb,by rw[← hdl];exact ab.outF (i:=9) rfl,ab.below⟩
theorem jW(bl)(z:Nat)(l:List Int)(pl cl)(w0:World)(h0:Rd (fun _=>True) w0 (.slice pl l.length cl) (.ns .u8 l))(hl:l.length≤1000000)(hlb:∀ j,j<l.length→0≤l.getD j 0∧l.getD j 0≤255)(hz:z≤1000) :
   Calls Tryz.prog 90 #[.int .i64 bl,.int .i64 (z:Int),.slice pl l.length cl] w0 fun e w' => ∃ (it:List (Int×List Int)) (p:Option Addr) (c:Nat),e=.returned (.slice p it.length c)∧it.length≤8∧l9 (max bl 1) z it it.length∧ItsB it∧(l≠[]→1≤it.length)∧Rd (New w0) w' (.slice p it.length c) (.l 2 (it.map itD))∧Below w0.heap.size w0 w':=by
 refine uI Tryz.func90 rfl Tryz.ntmps90 fun Y U =>?_
 have m0:=MemOk.start (fun _=>False) w0
 obtain⟨bb,hbb⟩:∃ x:Int,max bl 1=x:=⟨_,rfl⟩
 refine hC U (.assign rfl .nil) fun Y U=>hC U (.assign rfl .nil) fun Y U=>wsk fun K0 hK0=>hC U (.assign rfl .nil) fun Y U=>wp_block<|wp_loop_ghost (fun g a w => ∃ (k:Nat) (it:List (Int×List Int)) (p:Option Addr) (c:Nat),k≤l.length∧g=l.length - k∧it.length≤8∧l9 bb z it it.length∧ItsB it∧(0<k→1≤it.length)∧Has 61 [(0,.int .i64 bl),(1,.int .i64 (z:Int)),(2,.slice pl l.length cl),(7,.slice p (it.map itD).length c),(8,.int .i64 k)] a∧MemOk (cn w0) w0 [(9,.seg (.slice p (it.map itD).length c) 59 2 (it.map itD))] w) (l.length) ?_ ?_
 · have mz:=(m0.nilR 9 59 2).rowS 9 rfl
   exact⟨0,[],_,_,Nat.zero_le _,rfl,by simp,(fun j hj=>by simp at hj),(fun _ h=>by cases h),(fun h=>by omega),U.only [0,1,2,7,8],mz.only [9]⟩
 clear U m0
 rintro g Y w4 ⟨k,it,p,c,hkl,hg,hit8,hpre,hitb,hne,U,m4⟩
 refine wsk fun K1 hK1=>zsr fun K2 hK2=>g9 U (.move rfl<|.move rfl<|.len rfl U22<|.lss rfl rfl<|.move rfl .nil) fun Y U=>bc U 16 ?_ ?_
 ·
  intro ad U;try simp only [QQ,Qax] at ad
  have hk:k<l.length:=by omega
  have hx:=hlb k hk
  obtain⟨b9,hb9e,hb9⟩:∃ x:Int,(l.getD k 0).tmod bb=x∧(0≤x∧x<bb):=⟨_,rfl,by rw[Int.tmod_eq_emod_of_nonneg (by omega)];exact Int.emod_nonneg _ (by omega),by rw[Int.tmod_eq_emod_of_nonneg (by omega)];exact Int.emod_lt_of_pos _ (by omega)⟩
  refine gz hK2 U (.moveZ rfl<|.lenZ rfl U36<|.lssZ rfl rfl<|.pickT rfl rfl<|.nil) fun Y U=>bc U 20 ?_ ?_
  ·
   intro aa U;try simp only [QQ,Qax] at aa
   rw[List.length_map] at aa
   refine wct U<|zss<|hK1 _ _<|wsk fun K3 hK3=>wp_block ?_
   replace U:=U.oz [0,1,2,7,8]
   refine zsr fun K4 hK4=>g9 U (.move rfl<|.move rfl .nil) fun Y U =>?_
   obtain⟨ak,al,ao,aB,ah⟩:=h0.extN (k) hk
   revert U
   cases ao
   intro U
   refine gz hK4 U (.c rfl (fun _ h_=>ii h_ rfl rfl U22 jw (k) rfl hk)<|.loadAt1 (ah m4 rfl) (q:=0) rfl rfl rfl U5 rfl<|.conv rfl U5 U3 (r:=l.getD k 0) (IntWalk.i64_in _ (by omega))<|.move rfl<|.c rfl (fun _ h_=>sr h_ rfl rfl (r:=bb) hbb)<|.rem rfl rfl (by omega) (r:=b9) hb9e<|.assign rfl<|.nil) fun Y U =>?_
   replace U:=U.oz [0,1,2,7,8,9]
   refine hC U (.assign rfl .nil) fun Y U=>wsk fun K5 hK5=>hC U (.assign rfl .nil) fun Y U=>wp_block<|wp_loop_ghost (fun g a w => ∃ (j:Nat) (tb:Bool) (p:Option Addr) (c:Nat),j≤it.length∧g=it.length - j∧(tb=true↔∃ e∈it.take j,e.1=b9)∧Has 61 [(0,.int .i64 bl),(1,.int .i64 (z:Int)),(2,.slice (some ⟨ak,al,none⟩) l.length cl),(7,.slice p (it.map itD).length c),(8,.int .i64 k),(9,.int .i64 b9),(10,.bool tb),(11,.int .i64 j)] a∧MemOk (cn w0) w0 [(9,.seg (.slice p (it.map itD).length c) 59 2 (it.map itD))] w) (it.length) ?_ ?_
   · exact⟨0,false,_,_,Nat.zero_le _,rfl,by simp,U.only [0,1,2,7,8,9,10,11],m4.only [9]⟩
   clear U m4
   rintro g Y aI ⟨j,tb,p,c,hjl,hg2,htb,U,ae⟩
   refine wsk fun K6 hK6=>hC U (.move rfl<|.move rfl<|.len rfl U36<|.lss rfl rfl .nil) fun Y U=>bc U 34 ?_ ?_
   ·
    intro ab U;try simp only [QQ,Qax] at ab
    rw[List.length_map] at ab
    have hj:j<it.length:=by omega
    obtain⟨⟨yb,yd⟩,hit⟩:∃ e,it[j]? = some e:=⟨_,List.getElem?_eq_getElem hj⟩
    refine wct U<|zss<|hK6 _ _<|wsk fun K7 hK7=>wp_block<|wp_region_lit<|g9 U (.move rfl<|.move rfl .nil) fun Y U=>bc U 38 ?_ ?_
    ·
     intro ac U;try simp only [QQ,Qax] at ac
     refine gz hK7 U (.sk<|.sk<|.sk<|.sk<|.sk<|.sk<|.sk<|.pickT rfl rfl<|.assign rfl<|.nil) fun Y U =>?_
     replace U:=U.oz [0,1,2,7,8,9,10,11,38]
     refine wp_region_lit<|g9 U (.move rfl<|.inc (j+1)<|.assign rfl .nil) fun Y U=>wpList_nil ?_
     show ∃ n',n'<_∧_
     exact⟨it.length - (j+1),by omega,j+1,_,_,_,by omega,rfl,mH (tb:=true) (ac ▸ htb) hit,U.only [0,1,2,7,8,9,10,11],ae.only [9]⟩
    intro ac U;try simp only [QQ,Qax] at ac
    refine g9 U (.moveZ rfl<|.moveZ rfl .nil) fun Y U =>?_
    obtain⟨aC,aD,ap,aq,ar,au,ai⟩:=ae.openS (i:=9) rfl (j) (r:=[.v (.int .i64 yb),.ns .u8 yd]) (iB hit)
    revert U
    cases aq;clear ar au ai ap
    intro U
    refine gz hK7 U (.g rfl rfl rfl rfl (fun _ h_=>ii h_ rfl rfl U36 jA (j) rfl (by rw[List.length_map];exact hj))<|.fieldAddrQZ 0 rfl U59 rfl (s:=0) (by kernel_rfl) rfl<|.loadSVZ ae (i:=9) rfl (j) (r:=[.v (.int .i64 yb),.ns .u8 yd]) (iB hit) (q:=0) rfl rfl rfl U3 rfl<|.moveZ rfl<|.eqlZ rfl rfl<|.pickF rfl rfl<|.assign rfl<|.nil) fun Y U =>?_
    replace U:=U.oz [0,1,2,7,8,9,10,11,38]
    refine wp_region_lit<|g9 U (.move rfl<|.inc (j+1)<|.assign rfl .nil) fun Y U=>wpList_nil ?_
    show ∃ n',n'<_∧_
    exact⟨it.length - (j+1),by omega,j+1,_,_,_,by omega,rfl,mH (tb:=false) (ac ▸ htb) hit,U.only [0,1,2,7,8,9,10,11],ae.only [9]⟩
   intro ab U;try simp only [QQ,Qax] at ab
   rw[List.length_map] at ab
   revert U
   obtain rfl:j=it.length:=by omega
   intro U
   rw[List.take_length] at htb
   refine wcf U<|wp_exit<|hK5 _ _<|hC U (.move rfl<|.not rfl .nil) fun Y U=>bc U 48 ?_ ?_
   ·
    intro ag U;try simp only [QQ,Qax] at ag
    have hno:¬ ∃ e∈it,e.1=b9:=fun h=>by have h9:=htb.2 h;simp_all
    refine wct U<|wp_region_lit<|g9 U (.move rfl<|.move rfl<|.move rfl<|.move rfl<|.move rfl .nil) fun Y U =>?_
    obtain⟨aE,aF,av,aG,aj⟩:=h0.extN (k) hk
    revert U
    cases av
    intro U
    refine g9 U (.c rfl (fun _ h_=>ii h_ rfl rfl U22 jw (k) rfl hk)<|.loadAt1 (aj ae rfl) (q:=0) rfl rfl rfl U5 rfl .nil) fun Y U=>plz (ecl U Tryz.func131 rfl (tJ z (l.getD k 0) _ (by omega) (by omega)) ?_)
    rintro e aJ ⟨d9,aK,aL,rfl,hd9l,hd9b,aw,ax⟩
    have ay:=ae.callF 200 rfl ax aw
    refine⟨_,rfl,?_⟩;intro Y U
    refine g9 U (.build rfl qJ wq rfl (by dsimp only [iY,List.set] <;> rfl) .nil) fun Y U=>plz (iN U ay 201 (mm:=2) rfl (.cons rfl rfl (.cons (.v _) (.cons (ay.rd (i:=200) rfl) .nil)) .nil) U36 si rfl rfl rfl rfl rfl fun aM Y aN U aH =>?_)
    have az:=aH.freezeR 201 rfl
    refine plz<|nY U az 9 rfl rfl rfl (az.rd (i:=201) rfl).cells U36 si rfl rfl (by decide) (by simp;omega) rfl fun aO aP Y aQ U aA=>gz hK3 U (.assign rfl .nil) fun Y U =>?_
    replace U:=U.oz [0,1,2,7,8,9,10,11,48]
    refine wp_region_lit<|g9 U (.move rfl<|.inc (k+1)<|.assign rfl .nil) fun Y U=>wpList_nil ?_
    show ∃ n',n'<_∧_
    have hE:it.map itD++[[D.v (.int .i64 b9),.ns .u8 d9]]=(it++[(b9,d9)]).map itD:=by rw[List.map_append];rfl
    rw[hE] at aA U
    skip
    exact⟨l.length - (k+1),by omega,k+1,it++[(b9,d9)],_,_,by omega,rfl,by simp;omega,by rw[List.length_append];exact rT hpre hb9 (by omega) hno,rS hitb (by omega) hd9b,fun _=>by simp,U.only [0,1,2,7,8],aA.only [9]⟩
   intro ag U;try simp only [QQ,Qax] at ag
   have hsome:1≤it.length:=by
     obtain⟨e9,h9,-⟩:=htb.1 (by simp_all)
     exact List.length_pos_of_mem h9
   refine wcf U<|zss<|hK3 _ _<|wp_region_lit<|g9 U (.move rfl<|.inc (k+1)<|.assign rfl .nil) fun Y U=>wpList_nil ?_
   show ∃ n',n'<_∧_
   exact⟨l.length - (k+1),by omega,k+1,it,_,_,by omega,rfl,by omega,hpre,hitb,fun _=>hsome,U.only [0,1,2,7,8],ae.only [9]⟩
  intro aa U;try simp only [QQ,Qax] at aa
  rw[List.length_map] at aa
  refine wcf U<|wp_exit<|hK0 _ _ ?_
  replace U:=U.oz [0,1,2,7,8]
  refine hC U (.move rfl<|.assign rfl .nil) fun Y U=>rt1 U ?_
  have mf:=m4.freezeS 9 rfl (by simp [cx])
  exact⟨it,_,_,by rw[List.length_map],hit8,(by rw[hbb];exact hpre),hitb,(fun h=>by first|omega|(have h9:=List.length_pos_iff.2 h;exact hne (by omega))),by simpa using mf.outF (i:=9) rfl,m4.below⟩
 intro ad U;try simp only [QQ,Qax] at ad
 revert U
 obtain rfl:k=l.length:=by omega
 intro U
 refine gz hK2 U (.sk<|.sk<|.sk<|.pickF rfl rfl<|.nil) fun Y U=>wcf U<|wp_exit<|hK0 _ _ ?_
 replace U:=U.oz [0,1,2,7,8]
 refine hC U (.move rfl<|.assign rfl .nil) fun Y U=>rt1 U ?_
 have mf:=m4.freezeS 9 rfl (by simp [cx])
 exact⟨it,_,_,by rw[List.length_map],hit8,(by rw[hbb];exact hpre),hitb,(fun h=>by first|omega|(have h9:=List.length_pos_iff.2 h;exact hne (by omega))),by simpa using mf.outF (i:=9) rfl,m4.below⟩
end
end Go.Proofs.YtkehgingagggaaaGreat.K
