/- General laws of walks. -/
import Derived.Test.YtkehgingagggaaaGreatG9
import Derived.Test.YtkehgingagggaaaGreatG1
import Derived.Laws.Bits64
section
namespace Go.Proofs.YtkehgingagggaaaGreat.K
set_option autoImplicit true
set_option relaxedAutoImplicit true
open Go.ChangeShapes Go.WideShapes Go.ChangeAt Go.RowKit Go.Sort
set_option linter.unusedVariables false
set_option linter.unusedSimpArgs false
theorem rU:iO Tryz.prog 44 [.int .i64 0,.int .i64 0,.int .i64 0,.int .i64 0,.slice none 0 0]=true:=by kernel_rfl
theorem rV:iO Tryz.prog 44 [.int .i64 0,.int .i64 0,.int .i64 0,.int .i64 0,.slice none 0 0]=true:=by kernel_rfl
def li(l:List Int):List Int:=l.mergeSort fun x y=>decide (x≤y)
def l5(hi:Bool)(fl at0 nd:Int)(pins:List Int):List Int×Int:=if iJ hi fl at0 nd=0 then (li (pins++[at0]),0) else (pins,iJ hi fl at0 nd)
def jm(hi:Bool)(at0:Int)(pins:List Int):List Int×Int:=if hi=true∨Lib.idxOf pins at0<0 then (pins,28) else (pins.take (Lib.idxOf pins at0).toNat++pins.drop ((Lib.idxOf pins at0).toNat+1),0)
theorem mJ(x:Int):∀ (zs:List Int) (i:Nat),0≤Lib.idxFrom zs x i→∃ k:Nat,Lib.idxFrom zs x i=((i+k:Nat):Int)∧k<zs.length
 | [],i,h=>by simp [Lib.idxFrom] at h
 | z :: zs,i,h=>by
   unfold Lib.idxFrom at h ⊢
   split at h
   · rename_i e;rw[if_pos e];exact⟨0,rfl,by simp⟩
   rename_i e
   rw[if_neg e]
   obtain⟨k,h1,h2⟩:=mJ x zs (i+1) h
   exact⟨k+1,by rw[h1];congr 1;omega,by simp;omega⟩
theorem yf{zs:List Int}{x:Int}(h:0≤Lib.idxOf zs x):∃ k:Nat,Lib.idxOf zs x=(k:Int)∧k<zs.length:=by
 obtain⟨k,h1,h2⟩:=mJ x zs 0 h
 exact⟨k,by rw[Lib.idxOf,h1,Nat.zero_add],h2⟩
set_option maxRecDepth 100000
set_option maxHeartbeats 4000000
theorem oK(zs:List Int)(x p)(c:Nat)(w:World)(h:Rd (fun _=>True) w (.slice p zs.length c) (.ns .i64 zs))(hl:zs.length≤1000000) :
   Calls Tryz.prog 172 #[.slice p zs.length c,.int .i64 x] w fun e w'=>e=.returned (.int .i64 (Lib.idxOf zs x))∧Below w.heap.size w w':=by
 obtain⟨a,c2,hv,-,h0|⟨b,off,rfl,-,-,hc⟩⟩:=h.ns_out
 · obtain rfl:=List.length_eq_zero_iff.1 h0
   refine(AnyG.slices_Index_int_empty Tryz.index64 p c x w).mono ?_
   rintro e w' ⟨rfl,rfl⟩;exact⟨rfl,Below.refl _ _⟩
 injection hv with h1 h2 h3;subst h1;subst h3
 refine(AnyG.slices_Index_int Tryz.index64 b off zs.length c zs x w (Nat.le_refl _) (by omega) hc).mono ?_
 rintro e w' ⟨rfl,rfl⟩;rw[List.take_length];exact⟨rfl,Below.refl _ _⟩
theorem rW(X p)(c:Nat)(zs:List Int)(w0)(hl:zs.length≤1000000)(m0:MemOk X w0 [(1,.seg (.slice p zs.length c) 2 1 (zs.map nD))] w0) :
   Calls Tryz.prog 171 #[.slice p zs.length c] w0 fun e w'=>e=.returned (.tuple #[])∧MemOk X w0 [(1,.seg (.slice p zs.length c) 2 1 ((zs.mergeSort fun x y=>decide (x≤y)).map nD))] w':=by
 have hs:=(kN (m0.ok 1 _ rfl).1).2
 rcases hs with ⟨e1,h0⟩|⟨g,off,cap,cur,e1,-,hb,hnc,hcm,hcs,htk⟩
 · obtain rfl:=List.length_eq_zero_iff.1 h0
   refine(AnyG.slices_Sort_int_none Tryz.sort64 p c w0).mono ?_
   rintro e w' ⟨rfl,rfl⟩;exact⟨rfl,by simpa using m0⟩
 injection e1 with h1 h2 h3;subst h1;subst h3
 refine(AnyG.slices_Sort_int Tryz.sort64 g off c zs w0 (mO hb htk (by omega)) (Array.getElem?_eq_some_iff.1 hb).1 (by omega)).mono ?_
 rintro e w' ⟨rfl,n,os,rfl⟩
 exact⟨rfl,(m0.putN 1 rfl (zs.mergeSort fun x y=>decide (x≤y)) (by simp) n os).only [1]⟩
theorem oL(X p)(c:Nat)(zs:List Int)(k:Nat)(w0)(hk:k<zs.length)(hl:zs.length≤1000000)(m0:MemOk X w0 [(1,.seg (.slice p zs.length c) 2 1 (zs.map nD))] w0) :
   Calls Tryz.prog 173 #[.slice p zs.length c,.int .i64 (k:Int),.int .i64 ((k+1:Nat):Int)] w0 fun e w'=>e=.returned (.slice p (zs.take k++zs.drop (k+1)).length c)∧MemOk X w0 [(1,.seg (.slice p (zs.take k++zs.drop (k+1)).length c) 2 1 ((zs.take k++zs.drop (k+1)).map nD))] w':=by
 have hs:=(kN (m0.ok 1 _ rfl).1).2
 rcases hs with ⟨e1,h0⟩|⟨g,off,cap,cur,e1,-,hb,hnc,hcm,hcs,htk⟩
 · omega
 injection e1 with h1 h2 h3;subst h1;subst h3
 refine(AnyG.slices_Delete_int Tryz.delete64 g off c k (k+1) zs w0 (mO hb htk (by omega)) hnc (by unfold maxLen at hcm;omega) (by omega) (by omega)).mono ?_
 rintro e w' ⟨rfl,n,rfl⟩
 have hlen:(zs.take k++zs.drop (k+1)).length=zs.length - (k+1 - k):=by rw[List.length_append,List.length_take,List.length_drop];omega
 have h1:=m0.putN 1 rfl (zs.take k++zs.drop (k+1)++List.replicate (k+1 - k) 0) (by rw[List.length_append,List.length_append,List.length_replicate,List.length_take,List.length_drop];omega) n #[]
 rw[grow_empty] at h1
 have h2:=(h1.takeS 1 rfl (zs.take k++zs.drop (k+1)).length (by simp)).only [1]
 rw[← List.map_take,List.take_left' rfl] at h2
 rw[← hlen]
 exact⟨rfl,h2⟩
theorem l1(d:List Int)(p0 c0)(w0:World)(h0:Rd (fun _=>True) w0 (.slice p0 d.length c0) (.ns .i64 d))(hd:d.length≤1000000) :
   Calls Tryz.prog 100 #[.slice p0 d.length c0] w0 fun e w' => ∃ p c,e=.returned (.slice p d.length c)∧w'.ownsRow w0.heap.size 2 1 (.slice p d.length c) d.length (d.map (Value.int .i64))∧Below w0.heap.size w0 w':=by
 refine i9 Tryz.func100 rfl Tryz.ntmps100 fun Y U =>?_
 have m0:=MemOk.start (fun _=>False) w0
 refine hC U (.assign rfl .nil) fun Y U=>zsr fun K0 hK0=>g9 U (.move rfl .nil) fun Y U=>plz<|jr U m0 2 rfl rfl (h0.now' m0 rfl).ns_out.nums U48 ki (by decide) (by omega) rfl fun p4 c4 Y w5 U m5=>gz hK0 U (.assign rfl .nil) fun Y U=>rt1 U ?_
 exact⟨_,_,rfl,m5.ok 2 _ rfl,m5.below⟩
theorem mK(X)(vo bl sz pe to ne fl:Int)(hi)(place pins:List Int)(ws:List (Int×List (Int×List Int)))(pp pn pw:Option Addr)(cp cn9 cw:Nat)(w0)(hn:place.length≤1000000)(hp:pins.length≤900000)(hl:ws.length≤1000000)(hok:kK ws)(m0:MemOk X w0 [(1,.dat (.slice pp place.length cp) (.ns .i64 place)),(2,.dat (.slice pn pins.length cn9) (.ns .i64 pins)),(3,.dat (.slice pw (ws.map wrD).length cw) (.l 2 (ws.map wrD)))] w0) :
   Calls Tryz.prog 52 #[.agg #[.int .i64 vo,.int .i64 bl,.int .i64 sz,.int .i64 pe,.slice pp place.length cp,.int .i64 to,.int .i64 ne,.bool hi,.int .i64 fl,.slice pn pins.length cn9,.slice pw (ws.map wrD).length cw]] w0 fun e w' => ∃ p1 c1 p2 c2 p3 c3,e=.returned (.agg #[.int .i64 vo,.int .i64 bl,.int .i64 sz,.int .i64 pe,.slice p1 place.length c1,.int .i64 to,.int .i64 ne,.bool hi,.int .i64 fl,.slice p2 pins.length c2,.slice p3 (ws.map wrD).length c3])∧MemOk X w0 [(1,.dat (.slice pp place.length cp) (.ns .i64 place)),(2,.dat (.slice pn pins.length cn9) (.ns .i64 pins)),(3,.dat (.slice pw (ws.map wrD).length cw) (.l 2 (ws.map wrD))),(4,.dat (.slice p1 place.length c1) (.ns .i64 place)),(5,.seg (.slice p2 pins.length c2) 2 1 (pins.map nD)),(6,.seg (.slice p3 (ws.map wrD).length c3) 103 2 (ws.map wrD))] w':=by
 refine i9 Tryz.func52 rfl Tryz.ntmps52 fun Y U=>zsr fun K0 hK0=>plz<|iu U m0 20 (cs:=[_,_,_,_,_,_,_,_,_,_,_]) rfl rfl rfl fun g1 Y w2 U m2 _ _=>plz<|hZ U m2 21 iA rfl fun g3 Y w4 U m4 _ _=>znl<|hK0 _ _<|wsk fun K1 hK1 =>?_
 have m5:=m4.oz [1,2,3,20,21]
 refine region_p 10 (B:=[(1,_),(2,_),(3,_),(20,_),(21,_)]) (m5.to i5l) m5 (by kernel_rfl) (fun w6 hP6 m6 =>?_);clear m5
 refine goR hP6 [0,1,3,4,6,7] [1,4,7] 6 0 219 U (m6.to i5l) (.fa 4 rfl U51<|.lb hh 20 U35 rfl rfl rfl<|.fa 9 rfl U51<|.lb hh 20 U48 rfl rfl rfl<|.fa 10 rfl U51<|.lb hh 20 U49 rfl rfl rfl .nil) fun Y U=>so 2 ?_
 refine ecl U Tryz.func99 rfl (kz place _ _ _ ((m6.rd (i:=1) rfl).any) hn) ?_
 rintro e ar ⟨au,av,rfl,ab,ac⟩
 have aa:=m6.callF 22 rfl ac ab
 refine⟨_,rfl,?_⟩;intro Y U
 refine⟨aa.to i5l,?_⟩
 refine goA hP6 [9] 1 223 735 U (aa.to i5l) (.fa 4 rfl U51 .nil) fun Y U=>so 5 ?_
 refine ecl U Tryz.func100 rfl (l1 pins _ _ _ ((aa.rd (i:=2) rfl).any) (by omega)) ?_
 rintro e aw ⟨ax,ay,rfl,ad,ae⟩
 have ag:=(aa.newN 23 ae ad).numS 23 rfl
 refine⟨_,rfl,?_⟩;intro Y U
 refine⟨ag.to i5l,?_⟩
 refine so 8 ?_
 refine ecl U Tryz.func101 rfl (nQ ws _ _ _ _ ((ag.rd (i:=3) rfl).any) hl hok) ?_
 rintro e az ⟨aA,aB,rfl,ah,ai⟩
 have ao:=ag.callR 24 ai (ah.cast (fun b h=>⟨h.1.elim False.elim .inr,h.2⟩))
 have aj:=ao.rowS 24 rfl
 refine⟨_,rfl,?_⟩;intro Y U
 refine⟨aj.to i5l,?_⟩
 refine se 10 ?_
 refine st1 U aj 20 n0 fun aC ap _ =>?_
 refine goB hP6 [11] 1 2047 4095 U (.fa 9 rfl U51 .nil) fun Y U=>se 12 ?_
 refine st1 U ap 20 lq fun aD aq _ =>?_
 refine goB hP6 [13] 1 8191 16383 U (.fa 10 rfl U51 .nil) fun Y U=>se 14 ?_
 refine st1 U aq 20 n5 fun aE ak _ =>?_
 refine wad<|hK1 _ _ ?_
 replace U:=U.oz [1,2]
 refine zsr fun K2 hK2=>g9 U (.loadBR ak (i:=20) rfl rfl U51 rfl hH (by simp) (by dsimp only [List.drop,List.take] <;> rfl) .nil) fun Y U=>plz (stw U ak 21 hH fun aF al _ =>?_)
 refine znl<|hK2 _ _<|rtd (kG (fn:=Tryz.f52) U al (i:=21) rfl rfl rfl U51 rfl hH ?_)
 exact⟨_,_,_,_,_,_,rfl,al.ren [(1,1),(2,2),(3,3),(4,22),(5,23),(6,24)] (by decide)⟩
theorem zH(X B)(vo bl sz pe to ne fl:Int)(hi)(place pins:List Int)(ws:List (Int×List (Int×List Int)))(pp pn pw:Option Addr)(cp cn9 cw:Nat)(at0 w0)(hp:pins.length≤900000)(m0:MemOk X w0 [(1,.box B 51 [.int .i64 vo,.int .i64 bl,.int .i64 sz,.int .i64 pe,.slice pp place.length cp,.int .i64 to,.int .i64 ne,.bool hi,.int .i64 fl,.slice pn pins.length cn9,.slice pw (ws.map wrD).length cw]),(4,.seg (.slice pn pins.length cn9) 2 1 (pins.map nD))] w0) :
   Calls Tryz.prog 148 #[.pointer (some ⟨B,0,none⟩),.int .i64 at0] w0 fun e w' => ∃ (pins':List Int) (e9:Int) (pn':Option Addr) (cn':Nat),e=.returned (.int .i64 e9)∧l5 hi fl at0 ws.length pins=(pins',e9)∧MemOk X w0 [(1,.box B 51 [.int .i64 vo,.int .i64 bl,.int .i64 sz,.int .i64 pe,.slice pp place.length cp,.int .i64 to,.int .i64 ne,.bool hi,.int .i64 fl,.slice pn' pins'.length cn',.slice pw (ws.map wrD).length cw]),(4,.seg (.slice pn' pins'.length cn') 2 1 (pins'.map nD))] w':=by
 refine iZ Tryz.func148 rfl Tryz.ntmps148 fun Y U=>hC U (.assign rfl .nil) fun Y U=>zsr fun K0 hK0=>g9 U (.move rfl<|.move rfl<|.move rfl<|.nilCheck rfl<|.loadBR m0 (i:=1) rfl rfl U51 rfl hH (by simp) (by dsimp only [List.drop,List.take] <;> rfl) .nil) fun Y U=>wpList_plain rfl<|fun K hK=>iw U Tryz.func111 rfl rfl rfl rfl (je _ _ _ _ _ _ _ _ _ _ _ _ _ _ _ _ _ _) ?_
 rintro e aq ⟨rfl,ae⟩
 rw[List.length_map]
 have ag:=m0.later ae
 refine⟨_,rfl,?_⟩;intro Y U
 refine hK _ _ ?_;clear hK
 refine plz (ecl U Tryz.func169 rfl (uj _ _ _ _ _ _ _ _ _ _ place pins ws _ _ _ _ _ _ _ _ _ (ag.into [(1,1)] (by decide) rfl)) ?_)
 rintro e ar ⟨ex,rfl,hr,ab⟩
 have ah:=ag.back ab [(1,1)] (by decide);clear ab ag
 have ai:=ah.oz [1,4]
 refine⟨_,rfl,?_⟩;intro Y U
 refine gz hK0 U (.assign rfl .nil) fun Y U=>wsk fun K1 hK1 =>?_
 replace U:=U.oz [0,1,4,5]
 refine hC U (.move rfl<|.eql rfl rfl .nil) fun Y U=>bc U 14 ?_ ?_
 ·
  intro aa U;try simp only [QQ,Qax] at aa
  refine wct U<|zsr fun K2 hK2=>g9 U (.move rfl<|.move rfl<|.nilCheck rfl<|.fa 9 rfl U51<|.lb ai 1 U48 rfl rfl rfl<|.move rfl .nil) fun Y U=>plz (iv U ai 20 (k:=.i64) rfl rfl U48 ki rfl rfl rfl rfl fun au Y av U ao =>?_)
  have ak:=ao.numS 20 rfl
  refine plz<|nY U ak 4 rfl rfl rfl (ak.srcS (i:=20) rfl) U48 ki rfl rfl (by decide) (by simp;omega) rfl fun aw ax Y ay U ap=>g9 U (.nilCheck rfl<|.fa 9 rfl U51 .nil) fun Y U=>plz (st1 U ap 1 lq fun az ac _ =>?_)
  refine znl (hK2 _ _ ?_)
  replace U:=U.oz [0,4,5,14]
  refine wp_region_lit<|g9 U (.move rfl<|.nilCheck rfl<|.fa 9 rfl U51<|.lb ac 1 U48 rfl rfl rfl .nil) fun Y U =>?_
  rw[← List.map_append,List.length_map] at ac U
  refine plz (ecl U Tryz.func171 rfl (rW _ _ _ (pins++[at0]) _ (by simp;omega) (ac.into [(1,4)] (by decide) rfl)) ?_)
  rintro e aA ⟨rfl,ad⟩
  have aj:=ac.back ad [(4,1)] (by decide);clear ad ac
  have al:=aj.oz [4,1,20]
  refine⟨_,rfl,?_⟩;intro Y U
  refine znl (hK1 _ _ ?_)
  replace U:=U.oz [4,5,14]
  refine hC U (.move rfl<|.assign rfl .nil) fun Y U=>rt1 U ?_
  have hl9:(pins++[at0]).length=(li (pins++[at0])).length:=by simp [li]
  rw[show List.mergeSort (pins++[at0]) (fun x y=>decide (x≤y))=li (pins++[at0]) from rfl,hl9] at al
  exact⟨li (pins++[at0]),0,_,_,by simp_all,by rw[l5,if_pos (by rw[hr];assumption)],al.only [1,4]⟩
 intro aa U;try simp only [QQ,Qax] at aa
 refine wcf U<|zss<|hK1 _ _<|hC U (.move rfl<|.assign rfl .nil) fun Y U=>rt1 U ?_
 exact⟨pins,ex,_,_,rfl,by rw[l5,if_neg (by rw[hr];assumption),hr],ai.only [1,4]⟩
theorem yg(X B)(vo bl sz pe to ne fl:Int)(hi)(place pins:List Int)(ws:List (Int×List (Int×List Int)))(pp pn pw:Option Addr)(cp cn9 cw:Nat)(at0 w0)(hp:pins.length≤900000)(m0:MemOk X w0 [(1,.box B 51 [.int .i64 vo,.int .i64 bl,.int .i64 sz,.int .i64 pe,.slice pp place.length cp,.int .i64 to,.int .i64 ne,.bool hi,.int .i64 fl,.slice pn pins.length cn9,.slice pw (ws.map wrD).length cw]),(4,.seg (.slice pn pins.length cn9) 2 1 (pins.map nD))] w0) :
   Calls Tryz.prog 149 #[.pointer (some ⟨B,0,none⟩),.int .i64 at0] w0 fun e w' => ∃ (pins':List Int) (e9:Int) (pn':Option Addr) (cn':Nat),e=.returned (.int .i64 e9)∧jm hi at0 pins=(pins',e9)∧MemOk X w0 [(1,.box B 51 [.int .i64 vo,.int .i64 bl,.int .i64 sz,.int .i64 pe,.slice pp place.length cp,.int .i64 to,.int .i64 ne,.bool hi,.int .i64 fl,.slice pn' pins'.length cn',.slice pw (ws.map wrD).length cw]),(4,.seg (.slice pn' pins'.length cn') 2 1 (pins'.map nD))] w':=by
 refine iZ Tryz.func149 rfl Tryz.ntmps149 fun Y U=>hC U (.assign rfl .nil) fun Y U=>zsr fun K0 hK0=>g9 U (.move rfl<|.nilCheck rfl<|.fa 9 rfl U51<|.lb m0 1 U48 rfl rfl rfl<|.move rfl .nil) fun Y U=>plz<|ecb U Tryz.func172 rfl m0 (oK pins at0 _ _ _ (m0.rdN (i:=4) rfl) (by omega)) fun Y al U aa=>gz hK0 U (.assign rfl .nil) fun Y U=>wsk fun K1 hK1 =>?_
 replace U:=U.oz [0,4,5]
 refine zsr fun K2 hK2=>g9 U (.move rfl<|.nilCheck rfl<|.fa 7 rfl U51<|.lb aa 1 U4 rfl rfl rfl<|.move rfl .nil) fun Y U=>bc U 16 ?_ ?_
 ·
  intro ab U;try simp only [QQ,Qax] at ab
  refine gz hK2 U (.sk<|.sk<|.pickT rfl rfl<|.nil) fun Y U=>wct U<|hC U (.assign rfl .nil) fun Y U=>rt1 U ?_
  exact⟨pins,28,_,_,rfl,by rw[jm,if_pos (by first|(left;assumption)|(right;omega))],aa.only [1,4]⟩
 intro ab U;try simp only [QQ,Qax] at ab
 refine gz hK2 U (.moveZ rfl<|.lssZ rfl rfl<|.pickF rfl rfl<|.nil) fun Y U=>bc U 19 ?_ ?_
 ·
  intro ac U;try simp only [QQ,Qax] at ac
  refine wct U<|hC U (.assign rfl .nil) fun Y U=>rt1 U ?_
  exact⟨pins,28,_,_,rfl,by rw[jm,if_pos (by first|(left;assumption)|(right;omega))],aa.only [1,4]⟩
 intro ac U;try simp only [QQ,Qax] at ac
 obtain⟨k,hk,hk2⟩:=yf (zs:=pins) (x:=at0) (by omega)
 rw[hk] at U
 refine wcf U<|zss<|hK1 _ _<|zsr fun K3 hK3=>g9 U (.move rfl<|.move rfl<|.nilCheck rfl<|.fa 9 rfl U51<|.lb aa 1 U48 rfl rfl rfl<|.move rfl<|.move rfl<|.inc (k+1) .nil) fun Y U=>plz (ecl U Tryz.func173 rfl (oL _ _ _ pins k _ hk2 (by omega) (aa.into [(1,4)] (by decide) rfl)) ?_)
 rintro e ao ⟨rfl,ad⟩
 have ae:=aa.back ad [(4,1)] (by decide);clear ad aa
 have ai:=ae.oz [4,1]
 refine⟨_,rfl,?_⟩;intro Y U
 refine plz (ecl U Tryz.func100 rfl (l1 (pins.take k++pins.drop (k+1)) _ _ _ ((ai.rdN (i:=4) rfl)) (by simp;omega)) ?_)
 rintro e ap ⟨aq,ar,rfl,ag,ah⟩
 have aj:=(ai.newN 20 ah ag).numS 20 rfl
 refine⟨_,rfl,?_⟩;intro Y U
 refine g9 U (.nilCheck rfl<|.fa 9 rfl U51 .nil) fun Y U=>plz (st1 U aj 1 lq fun au ak _ =>?_)
 refine znl (hK3 _ _ ?_)
 replace U:=U.oz [4,15,16,19]
 refine hC U (.assign rfl .nil) fun Y U=>rt1 U ?_
 exact⟨pins.take k++pins.drop (k+1),0,_,_,rfl,by rw[jm,if_neg (by rintro(h|h) <;> first|omega|simp_all),hk];simp,ak.ren [(1,1),(4,20)] (by decide)⟩
theorem zI(X B)(vo bl sz pe to ne fl:Int)(hi)(place pins:List Int)(ws:List (Int×List (Int×List Int)))(pp pn pw:Option Addr)(cp cn9 cw:Nat)(v1 v2 v3 v4 v5 at0 v6:Int)(q1 n1 c1 q2 n2 c2 w0)(hp:pins.length≤900000)(m0:MemOk X w0 [(1,.box B 51 [.int .i64 vo,.int .i64 bl,.int .i64 sz,.int .i64 pe,.slice pp place.length cp,.int .i64 to,.int .i64 ne,.bool hi,.int .i64 fl,.slice pn pins.length cn9,.slice pw (ws.map wrD).length cw]),(4,.seg (.slice pn pins.length cn9) 2 1 (pins.map nD))] w0) :
   Calls Tryz.prog 133 #[.pointer (some ⟨B,0,none⟩),.agg #[.int .i64 4,.int .i64 v1,.int .i64 v2,.int .i64 v3,.int .i64 v4,.slice q1 n1 c1,.int .i64 v5,.int .i64 at0,.int .i64 v6,.slice q2 n2 c2]] w0 fun e w' => ∃ (pins':List Int) (e9:Int) (pn':Option Addr) (cn':Nat),e=.returned (.int .i64 e9)∧l5 hi fl at0 ws.length pins=(pins',e9)∧MemOk X w0 [(1,.box B 51 [.int .i64 vo,.int .i64 bl,.int .i64 sz,.int .i64 pe,.slice pp place.length cp,.int .i64 to,.int .i64 ne,.bool hi,.int .i64 fl,.slice pn' pins'.length cn',.slice pw (ws.map wrD).length cw]),(4,.seg (.slice pn' pins'.length cn') 2 1 (pins'.map nD))] w':=by
 refine iZ Tryz.func133 rfl Tryz.ntmps133 fun Y U=>zsr fun K0 hK0=>plz<|iu U m0 20 (cs:=[_,_,_,_,_,_,_,_,_,_]) rfl rfl rfl fun g1 Y w2 U m2 _ _=>gz hK0 U (.assign rfl .nil) fun Y U=>wsk fun K1 hK1=>hC U (.fa 0 rfl U38<|.lb m2 20 U3 rfl rfl rfl .nil) fun Y U=>wp_block<|hC U (.eql rfl rfl<|.assign rfl .nil) fun Y U=>bcF U 7 fun U=>wcf U<|hC U (.eql rfl rfl<|.assign rfl .nil) fun Y U=>bcF U 13 fun U=>wcf U ?_
 replace U:=U.oz [0,3,4,6]
 refine hC U (.eql rfl rfl<|.assign rfl .nil) fun Y U=>bcT U 19 fun U=>wct U<|zsr fun K2 hK2=>g9 U (.move rfl<|.fa 7 rfl U38<|.lb m2 20 U2 rfl rfl rfl .nil) fun Y U=>plz (ecl U Tryz.func148 rfl (zH _ _ _ _ _ _ _ _ _ _ place pins ws _ _ _ _ _ _ _ _ hp (m2.into [(1,1),(4,4)] (by decide) rfl)) ?_)
 rintro e ag ⟨pins1,e1,ac,ad,rfl,hR,aa⟩
 have ab:=m2.back aa [(1,1),(4,4)] (by decide);clear aa m2
 have ae:=ab.oz [1,4,20]
 refine⟨_,rfl,?_⟩;intro Y U
 refine gz hK2 U (.assign rfl .nil) fun Y U=>rt1 U ?_
 exact⟨pins1,e1,_,_,rfl,hR,ae.only [1,4]⟩
theorem zJ(X B)(vo bl sz pe to ne fl:Int)(hi)(place pins:List Int)(ws:List (Int×List (Int×List Int)))(pp pn pw:Option Addr)(cp cn9 cw:Nat)(v1 v2 v3 v4 v5 at0 v6:Int)(q1 n1 c1 q2 n2 c2 w0)(hp:pins.length≤900000)(m0:MemOk X w0 [(1,.box B 51 [.int .i64 vo,.int .i64 bl,.int .i64 sz,.int .i64 pe,.slice pp place.length cp,.int .i64 to,.int .i64 ne,.bool hi,.int .i64 fl,.slice pn pins.length cn9,.slice pw (ws.map wrD).length cw]),(4,.seg (.slice pn pins.length cn9) 2 1 (pins.map nD))] w0) :
   Calls Tryz.prog 133 #[.pointer (some ⟨B,0,none⟩),.agg #[.int .i64 5,.int .i64 v1,.int .i64 v2,.int .i64 v3,.int .i64 v4,.slice q1 n1 c1,.int .i64 v5,.int .i64 at0,.int .i64 v6,.slice q2 n2 c2]] w0 fun e w' => ∃ (pins':List Int) (e9:Int) (pn':Option Addr) (cn':Nat),e=.returned (.int .i64 e9)∧jm hi at0 pins=(pins',e9)∧MemOk X w0 [(1,.box B 51 [.int .i64 vo,.int .i64 bl,.int .i64 sz,.int .i64 pe,.slice pp place.length cp,.int .i64 to,.int .i64 ne,.bool hi,.int .i64 fl,.slice pn' pins'.length cn',.slice pw (ws.map wrD).length cw]),(4,.seg (.slice pn' pins'.length cn') 2 1 (pins'.map nD))] w':=by
 refine iZ Tryz.func133 rfl Tryz.ntmps133 fun Y U=>zsr fun K0 hK0=>plz<|iu U m0 20 (cs:=[_,_,_,_,_,_,_,_,_,_]) rfl rfl rfl fun g1 Y w2 U m2 _ _=>gz hK0 U (.assign rfl .nil) fun Y U=>wsk fun K1 hK1=>hC U (.fa 0 rfl U38<|.lb m2 20 U3 rfl rfl rfl .nil) fun Y U=>wp_block<|hC U (.eql rfl rfl<|.assign rfl .nil) fun Y U=>bcF U 7 fun U=>wcf U<|hC U (.eql rfl rfl<|.assign rfl .nil) fun Y U=>bcF U 13 fun U=>wcf U ?_
 replace U:=U.oz [0,3,4,6]
 refine hC U (.eql rfl rfl<|.assign rfl .nil) fun Y U=>bcF U 19 fun U=>wcf U<|hC U (.eql rfl rfl<|.assign rfl .nil) fun Y U=>bcT U 25 fun U=>wct U<|zsr fun K2 hK2=>g9 U (.move rfl<|.fa 7 rfl U38<|.lb m2 20 U2 rfl rfl rfl .nil) fun Y U=>plz (ecl U Tryz.func149 rfl (yg _ _ _ _ _ _ _ _ _ _ place pins ws _ _ _ _ _ _ _ _ hp (m2.into [(1,1),(4,4)] (by decide) rfl)) ?_)
 rintro e ag ⟨pins1,e1,ac,ad,rfl,hR,aa⟩
 have ab:=m2.back aa [(1,1),(4,4)] (by decide);clear aa m2
 have ae:=ab.oz [1,4,20]
 refine⟨_,rfl,?_⟩;intro Y U
 refine gz hK2 U (.assign rfl .nil) fun Y U=>rt1 U ?_
 exact⟨pins1,e1,_,_,rfl,hR,ae.only [1,4]⟩
theorem zu(X)(vo bl sz pe to ne fl:Int)(hi)(place pins:List Int)(ws:List (Int×List (Int×List Int)))(pp pn pw:Option Addr)(cp cn9 cw:Nat)(v1 v2 v3 v4 v5 at0 v6:Int)(q1 n1 c1 q2 n2 c2 w0)(hn:place.length≤1000000)(hp:pins.length≤900000)(hl:ws.length≤900000)(hok:kK ws)(m0:MemOk X w0 [(1,.dat (.slice pp place.length cp) (.ns .i64 place)),(2,.dat (.slice pn pins.length cn9) (.ns .i64 pins)),(3,.dat (.slice pw (ws.map wrD).length cw) (.l 2 (ws.map wrD)))] w0) :
   Calls Tryz.prog 96 #[.agg #[.int .i64 vo,.int .i64 bl,.int .i64 sz,.int .i64 pe,.slice pp place.length cp,.int .i64 to,.int .i64 ne,.bool hi,.int .i64 fl,.slice pn pins.length cn9,.slice pw (ws.map wrD).length cw],.agg #[.int .i64 4,.int .i64 v1,.int .i64 v2,.int .i64 v3,.int .i64 v4,.slice q1 n1 c1,.int .i64 v5,.int .i64 at0,.int .i64 v6,.slice q2 n2 c2]] w0 fun e w' => ∃ (pins':List Int) (e9 rl rf rn:Int) (p1':Option Addr) (d1':Nat) (p2':Option Addr) (d2':Nat) (p3':Option Addr) (d3':Nat),e=.returned (.tuple #[.agg #[.int .i64 vo,.int .i64 bl,.int .i64 sz,.int .i64 pe,.slice p1' place.length d1',.int .i64 to,.int .i64 ne,.bool hi,.int .i64 fl,.slice p2' pins'.length d2',.slice p3' (ws.map wrD).length d3'],.agg #[.int .i64 e9,.int .i64 rl,.int .i64 rf,.int .i64 rn,.slice none 0 0]])∧l5 hi fl at0 ws.length pins=(pins',e9)∧((e9≠0∧rl=0∧rf=0∧rn=0)∨(e9=0∧rl=ws.length∧rf=fl∧rn=ne))∧MemOk X w0 [(1,.dat (.slice pp place.length cp) (.ns .i64 place)),(2,.dat (.slice pn pins.length cn9) (.ns .i64 pins)),(3,.dat (.slice pw (ws.map wrD).length cw) (.l 2 (ws.map wrD))),(5,.dat (.slice p1' place.length d1') (.ns .i64 place)),(6,.seg (.slice p2' pins'.length d2') 2 1 (pins'.map nD)),(7,.seg (.slice p3' (ws.map wrD).length d3') 103 2 (ws.map wrD))] w':=by
 refine iZ Tryz.func96 rfl Tryz.ntmps96 fun Y U=>zsr fun K0 hK0=>plz<|iu U m0 20 (cs:=[_,_,_,_,_,_,_,_,_,_,_]) rfl rfl rfl fun g1 Y w2 U m2 _ _=>plz<|iu U m2 21 (cs:=[_,_,_,_,_,_,_,_,_,_]) rfl rfl rfl fun g3 Y w4 U m4 _ _=>plz<|hZ U m4 22 iA rfl fun g5 Y w6 U m6 _ _=>plz<|hZ U m6 23 iL rfl fun g7 Y w8 U m8 _ _=>znl<|hK0 _ _<|zsr fun K1 hK1=>g9 U (.loadBR m8 (i:=20) rfl rfl U51 rfl hH (by simp) (by dsimp only [List.drop,List.take] <;> rfl) .nil) fun Y U=>plz (ecl U Tryz.func52 rfl (mK _ _ _ _ _ _ _ _ _ place pins ws _ _ _ _ _ _ _ hn hp (by omega) hok (m8.into [(1,1),(2,2),(3,3)] (by decide) rfl)) ?_)
 rintro e aD ⟨ar,au,av,aw,ax,ay,rfl,ab⟩
 have ag:=m8.back ab [(1,1),(2,2),(3,3),(24,4),(25,5),(26,6)] (by decide);clear ab m8
 have az:=ag.oz [1,2,3,24,25,26,20,21,22,23]
 refine⟨_,rfl,?_⟩;intro Y U
 refine plz (stw U az 20 hH fun aE ae _ =>?_)
 refine znl<|hK1 _ _<|wsk fun K2 hK2=>zsr fun K3 hK3=>g9 U (.loadBR ae (i:=21) rfl rfl U38 rfl ip (by simp) (by dsimp only [List.drop,List.take] <;> rfl) .nil) fun Y U=>plz (ecl U Tryz.func133 rfl (zI _ _ _ _ _ _ _ _ _ _ place pins ws _ _ _ _ _ _ _ _ _ _ _ _ _ _ _ _ _ _ _ _ hp (ae.into [(1,20),(4,25)] (by decide) rfl)) ?_)
 rintro e aF ⟨pins1,e1,aA,aB,rfl,hR,ac⟩
 have ah:=ae.back ac [(20,1),(25,4)] (by decide);clear ac ae
 have ai:=ah.oz [20,25,1,2,3,21,22,23,24,26]
 refine⟨_,rfl,?_⟩;intro Y U
 refine gz hK3 U (.assign rfl .nil) fun Y U =>?_
 replace U:=U.oz [2,4,5,6]
 refine hC U (.move rfl<|.neq rfl rfl .nil) fun Y U=>bc U 12 ?_ ?_
 ·
  intro aa U;try simp only [QQ,Qax] at aa
  refine wct U<|zsr fun K4 hK4=>g9 U (.loadBR ai (i:=20) rfl rfl U51 rfl hH (by simp) (by dsimp only [List.drop,List.take] <;> rfl)<|.move rfl<|.build rfl iL rU rfl (by dsimp only [iY,List.set] <;> rfl) .nil) fun Y U=>plz (stw U ai 22 hH fun aG aC _ =>?_)
  refine plz (stw U aC 23 iz fun aH ao _ =>?_)
  refine znl<|hK4 _ _<|rtd (lp (fn:=Tryz.f96) U ao (i:=22) (i2:=23) rfl rfl rfl rfl rfl U51 rfl hH U44 rfl iz ?_)
  exact⟨pins1,e1,0,0,0,_,_,_,_,_,_,rfl,hR,.inl ⟨by assumption,rfl,rfl,rfl⟩,ao.ren [(1,1),(2,2),(3,3),(5,24),(6,25),(7,26)] (by decide)⟩
 intro aa U;try simp only [QQ,Qax] at aa
 refine wcf U<|zss<|hK2 _ _<|wsk fun K5 hK5 =>?_
 have aj:=ai.oz [1,2,3,20,21,22,23,24,25,26]
 refine region_p 10 (B:=[(20,_)]) (aj.to i1l) aj (by kernel_rfl) (fun aI ad ap =>?_);clear aj
 refine goR ad [0,1,3,4,5,6] [0,1,4,6] 6 0 123 U (ap.to i1l) (.loadBR hh (i:=20) rfl rfl U51 rfl hH (by simp) (by dsimp only [List.drop,List.take] <;> rfl)<|.loadBR hh (i:=20) rfl rfl U51 rfl hH (by simp) (by dsimp only [List.drop,List.take] <;> rfl)<|.fa 8 rfl U51<|.lb hh 20 U2 rfl rfl rfl<|.fa 6 rfl U51<|.lb hh 20 U3 rfl rfl rfl .nil) fun Y U=>so 2 ?_
 refine ecb U Tryz.func111 rfl ap (je _ _ _ _ _ _ _ _ _ _ _ _ _ _ _ _ _ _) fun Y aJ U ak=>⟨ak.to i1l,?_⟩
 refine goA ad [7] 1 127 255 U (ak.to i1l) (.build rfl iL rU rfl (by dsimp only [iY,List.set] <;> rfl) .nil) fun Y U=>so 8 ?_
 refine stw U ak 22 hH fun aK aq _ =>?_
 refine⟨aq.to i1l,?_⟩
 refine so 9 ?_
 refine stw U aq 23 iz fun aL al _ =>?_
 refine⟨al.to i1l,?_⟩
 refine wad<|hK5 _ _<|rtd (lp (fn:=Tryz.f96) U al (i:=22) (i2:=23) rfl rfl rfl rfl rfl U51 rfl hH U44 rfl iz ?_)
 revert U
 obtain rfl:e1=0:=by first|assumption|(simp_all;done)|omega
 intro U
 exact⟨pins1,0,ws.length,fl,ne,_,_,_,_,_,_,by rw[List.length_map],hR,.inr ⟨rfl,rfl,rfl,rfl⟩,al.ren [(1,1),(2,2),(3,3),(5,24),(6,25),(7,26)] (by decide)⟩
theorem zv(X)(vo bl sz pe to ne fl:Int)(hi)(place pins:List Int)(ws:List (Int×List (Int×List Int)))(pp pn pw:Option Addr)(cp cn9 cw:Nat)(v1 v2 v3 v4 v5 at0 v6:Int)(q1 n1 c1 q2 n2 c2 w0)(hn:place.length≤1000000)(hp:pins.length≤900000)(hl:ws.length≤900000)(hok:kK ws)(m0:MemOk X w0 [(1,.dat (.slice pp place.length cp) (.ns .i64 place)),(2,.dat (.slice pn pins.length cn9) (.ns .i64 pins)),(3,.dat (.slice pw (ws.map wrD).length cw) (.l 2 (ws.map wrD)))] w0) :
   Calls Tryz.prog 96 #[.agg #[.int .i64 vo,.int .i64 bl,.int .i64 sz,.int .i64 pe,.slice pp place.length cp,.int .i64 to,.int .i64 ne,.bool hi,.int .i64 fl,.slice pn pins.length cn9,.slice pw (ws.map wrD).length cw],.agg #[.int .i64 5,.int .i64 v1,.int .i64 v2,.int .i64 v3,.int .i64 v4,.slice q1 n1 c1,.int .i64 v5,.int .i64 at0,.int .i64 v6,.slice q2 n2 c2]] w0 fun e w' => ∃ (pins':List Int) (e9 rl rf rn:Int) (p1':Option Addr) (d1':Nat) (p2':Option Addr) (d2':Nat) (p3':Option Addr) (d3':Nat),e=.returned (.tuple #[.agg #[.int .i64 vo,.int .i64 bl,.int .i64 sz,.int .i64 pe,.slice p1' place.length d1',.int .i64 to,.int .i64 ne,.bool hi,.int .i64 fl,.slice p2' pins'.length d2',.slice p3' (ws.map wrD).length d3'],.agg #[.int .i64 e9,.int .i64 rl,.int .i64 rf,.int .i64 rn,.slice none 0 0]])∧jm hi at0 pins=(pins',e9)∧((e9≠0∧rl=0∧rf=0∧rn=0)∨(e9=0∧rl=ws.length∧rf=fl∧rn=ne))∧MemOk X w0 [(1,.dat (.slice pp place.length cp) (.ns .i64 place)),(2,.dat (.slice pn pins.length cn9) (.ns .i64 pins)),(3,.dat (.slice pw (ws.map wrD).length cw) (.l 2 (ws.map wrD))),(5,.dat (.slice p1' place.length d1') (.ns .i64 place)),(6,.seg (.slice p2' pins'.length d2') 2 1 (pins'.map nD)),(7,.seg (.slice p3' (ws.map wrD).length d3') 103 2 (ws.map wrD))] w':=by
 refine iZ Tryz.func96 rfl Tryz.ntmps96 fun Y U=>zsr fun K0 hK0=>plz<|iu U m0 20 (cs:=[_,_,_,_,_,_,_,_,_,_,_]) rfl rfl rfl fun g1 Y w2 U m2 _ _=>plz<|iu U m2 21 (cs:=[_,_,_,_,_,_,_,_,_,_]) rfl rfl rfl fun g3 Y w4 U m4 _ _=>plz<|hZ U m4 22 iA rfl fun g5 Y w6 U m6 _ _=>plz<|hZ U m6 23 iL rfl fun g7 Y w8 U m8 _ _=>znl<|hK0 _ _<|zsr fun K1 hK1=>g9 U (.loadBR m8 (i:=20) rfl rfl U51 rfl hH (by simp) (by dsimp only [List.drop,List.take] <;> rfl) .nil) fun Y U=>plz (ecl U Tryz.func52 rfl (mK _ _ _ _ _ _ _ _ _ place pins ws _ _ _ _ _ _ _ hn hp (by omega) hok (m8.into [(1,1),(2,2),(3,3)] (by decide) rfl)) ?_)
 rintro e aD ⟨ar,au,av,aw,ax,ay,rfl,ab⟩
 have ag:=m8.back ab [(1,1),(2,2),(3,3),(24,4),(25,5),(26,6)] (by decide);clear ab m8
 have az:=ag.oz [1,2,3,24,25,26,20,21,22,23]
 refine⟨_,rfl,?_⟩;intro Y U
 refine plz (stw U az 20 hH fun aE ae _ =>?_)
 refine znl<|hK1 _ _<|wsk fun K2 hK2=>zsr fun K3 hK3=>g9 U (.loadBR ae (i:=21) rfl rfl U38 rfl ip (by simp) (by dsimp only [List.drop,List.take] <;> rfl) .nil) fun Y U=>plz (ecl U Tryz.func133 rfl (zJ _ _ _ _ _ _ _ _ _ _ place pins ws _ _ _ _ _ _ _ _ _ _ _ _ _ _ _ _ _ _ _ _ hp (ae.into [(1,20),(4,25)] (by decide) rfl)) ?_)
 rintro e aF ⟨pins1,e1,aA,aB,rfl,hR,ac⟩
 have ah:=ae.back ac [(20,1),(25,4)] (by decide);clear ac ae
 have ai:=ah.oz [20,25,1,2,3,21,22,23,24,26]
 refine⟨_,rfl,?_⟩;intro Y U
 refine gz hK3 U (.assign rfl .nil) fun Y U =>?_
 replace U:=U.oz [2,4,5,6]
 refine hC U (.move rfl<|.neq rfl rfl .nil) fun Y U=>bc U 12 ?_ ?_
 ·
  intro aa U;try simp only [QQ,Qax] at aa
  refine wct U<|zsr fun K4 hK4=>g9 U (.loadBR ai (i:=20) rfl rfl U51 rfl hH (by simp) (by dsimp only [List.drop,List.take] <;> rfl)<|.move rfl<|.build rfl iL rV rfl (by dsimp only [iY,List.set] <;> rfl) .nil) fun Y U=>plz (stw U ai 22 hH fun aG aC _ =>?_)
  refine plz (stw U aC 23 iz fun aH ao _ =>?_)
  refine znl<|hK4 _ _<|rtd (lp (fn:=Tryz.f96) U ao (i:=22) (i2:=23) rfl rfl rfl rfl rfl U51 rfl hH U44 rfl iz ?_)
  exact⟨pins1,e1,0,0,0,_,_,_,_,_,_,rfl,hR,.inl ⟨by assumption,rfl,rfl,rfl⟩,ao.ren [(1,1),(2,2),(3,3),(5,24),(6,25),(7,26)] (by decide)⟩
 intro aa U;try simp only [QQ,Qax] at aa
 refine wcf U<|zss<|hK2 _ _<|wsk fun K5 hK5 =>?_
 have aj:=ai.oz [1,2,3,20,21,22,23,24,25,26]
 refine region_p 10 (B:=[(20,_)]) (aj.to i1l) aj (by kernel_rfl) (fun aI ad ap =>?_);clear aj
 refine goR ad [0,1,3,4,5,6] [0,1,4,6] 6 0 123 U (ap.to i1l) (.loadBR hh (i:=20) rfl rfl U51 rfl hH (by simp) (by dsimp only [List.drop,List.take] <;> rfl)<|.loadBR hh (i:=20) rfl rfl U51 rfl hH (by simp) (by dsimp only [List.drop,List.take] <;> rfl)<|.fa 8 rfl U51<|.lb hh 20 U2 rfl rfl rfl<|.fa 6 rfl U51<|.lb hh 20 U3 rfl rfl rfl .nil) fun Y U=>so 2 ?_
 refine ecb U Tryz.func111 rfl ap (je _ _ _ _ _ _ _ _ _ _ _ _ _ _ _ _ _ _) fun Y aJ U ak=>⟨ak.to i1l,?_⟩
 refine goA ad [7] 1 127 255 U (ak.to i1l) (.build rfl iL rV rfl (by dsimp only [iY,List.set] <;> rfl) .nil) fun Y U=>so 8 ?_
 refine stw U ak 22 hH fun aK aq _ =>?_
 refine⟨aq.to i1l,?_⟩
 refine so 9 ?_
 refine stw U aq 23 iz fun aL al _ =>?_
 refine⟨al.to i1l,?_⟩
 refine wad<|hK5 _ _<|rtd (lp (fn:=Tryz.f96) U al (i:=22) (i2:=23) rfl rfl rfl rfl rfl U51 rfl hH U44 rfl iz ?_)
 revert U
 obtain rfl:e1=0:=by first|assumption|(simp_all;done)|omega
 intro U
 exact⟨pins1,0,ws.length,fl,ne,_,_,_,_,_,_,by rw[List.length_map],hR,.inr ⟨rfl,rfl,rfl,rfl⟩,al.ren [(1,1),(2,2),(3,3),(5,24),(6,25),(7,26)] (by decide)⟩
end Go.Proofs.YtkehgingagggaaaGreat.K
end
namespace Go.Proofs.YtkehgingagggaaaGreat.K
open Go.ChangeShapes Go.WideShapes Go.ChangeAt Go.RowKit
set_option linter.unusedVariables false
set_option linter.unusedSimpArgs false
set_option maxRecDepth 100000
set_option maxHeartbeats 4000000
set_option autoImplicit true
set_option relaxedAutoImplicit true
section
theorem yh:iO Tryz.prog 59 [.int .i64 0,.slice none 0 0]=true:=by kernel_rfl
theorem wz:iO Tryz.prog 103 [.int .i64 0,.slice none 0 0]=true:=by kernel_rfl
theorem qh{l:List (Int×List Int)}{xb:Int}(h:∀ i,i<k→(l.getD i i0).1≠xb)(hk:k≤l.length):¬ ∃ e∈l.take k,e.1=xb:=fun⟨e,h1,h2⟩=>by
 obtain⟨j,hj,rfl⟩:=List.getElem_of_mem h1
 have hj2:j<k:=by rw[List.length_take] at hj;omega
 have h3:=h j hj2
 rw[List.getD,List.getElem?_eq_getElem (by omega)] at h3
 rw[List.getElem_take] at h2
 exact h3 h2
theorem js(bl sz)(l:List (Int×List Int))(p)(nn c:Nat)(w0:World)(h0:Rd (fun _=>True) w0 (.slice p nn c) (.l 2 (l.map itD)))(hl:l.length≤1000000) :
   Calls Tryz.prog 115 #[.int .i64 bl,.int .i64 sz,.slice p nn c] w0 fun e w' => ∃ b:Bool,e=.returned (.bool b)∧(b=true↔kb bl sz l)∧Below w0.heap.size w0 w':=by
 obtain rfl:nn=l.length:=by obtain⟨pq,cq,hv,_⟩:=h0.l_shape;injection hv with _ e2 _;rw[List.length_map] at e2;exact e2
 refine uI Tryz.func115 rfl Tryz.ntmps115 fun Y U =>?_
 have m0:=MemOk.start (fun _=>False) w0
 refine hC U (.assign rfl .nil) fun Y U=>wsk fun K0 hK0=>zsr fun K1 hK1=>g9 U (.move rfl<|.len rfl U36<|.lss rfl rfl<|.move rfl .nil) fun Y U=>bc U 12 ?_ ?_
 ·
  intro al U;try simp only [QQ,Qax] at al
  refine gz hK1 U (.sk<|.sk<|.sk<|.pickT rfl rfl<|.nil) fun Y U=>wct U ?_
  replace U:=U.oz [0,1,2,6,12,16]
  refine hC U (.assign rfl .nil) fun Y U=>rt1 U ?_
  exact⟨false,rfl,iff_of_false (by simp) (fun h=>by have h8:=h.1;have h9:=h.2.1;omega),m0.below⟩
 intro al U;try simp only [QQ,Qax] at al
 refine gz hK1 U (.moveZ rfl<|.lenZ rfl U36<|.gtrZ rfl rfl<|.pickF rfl rfl<|.nil) fun Y U=>bc U 16 ?_ ?_
 ·
  intro ao U;try simp only [QQ,Qax] at ao
  refine wct U ?_
  replace U:=U.oz [0,1,2,6,12,16]
  refine hC U (.assign rfl .nil) fun Y U=>rt1 U ?_
  exact⟨false,rfl,iff_of_false (by simp) (fun h=>by have h8:=h.1;have h9:=h.2.1;omega),m0.below⟩
 intro ao U;try simp only [QQ,Qax] at ao
 refine wcf U<|zss<|hK0 _ _<|wsk fun K2 hK2 =>?_
 replace U:=U.oz [0,1,2,6,12,16]
 refine hC U (.assign rfl .nil) fun Y U=>wp_block<|wp_loop_ghost (fun g a w => ∃ k:Nat,k≤l.length∧g=l.length - k∧l9 bl sz l k∧Has 64 [(0,.int .i64 bl),(1,.int .i64 sz),(2,.slice p l.length c),(7,.int .i64 k)] a∧MemOk (cn w0) w0 [] w) (l.length) ?_ ?_
 · exact⟨0,Nat.zero_le _,rfl,(fun j hj=>by omega),U.only [0,1,2,7],m0.only []⟩
 clear U m0
 rintro g Y bt ⟨k,hkl,hg,hall,U,ai⟩
 refine wsk fun K3 hK3=>hC U (.move rfl<|.move rfl<|.len rfl U36<|.lss rfl rfl .nil) fun Y U=>bc U 20 ?_ ?_
 ·
  intro ap U;try simp only [QQ,Qax] at ap
  have hk:k<l.length:=by omega
  obtain⟨⟨xb,xd⟩,hes⟩:∃ e,l[k]? = some e:=⟨_,List.getElem?_eq_getElem hk⟩
  refine wct U<|zss<|hK3 _ _<|wsk fun K4 hK4=>wp_block<|wsk fun K5 hK5=>zsr fun K6 hK6=>g9 U (.move rfl<|.move rfl .nil) fun Y U =>?_
  obtain⟨aN,aO,a8,aP,a9,aQ,aD⟩:=h0.extA (k) (r:=[.v (.int .i64 xb),.ns .u8 xd]) (iB hes)
  revert U
  cases aP
  rcases aQ with _|⟨ad,_|⟨aq,_|_⟩⟩
  obtain rfl:=ad.v_out
  clear ad
  obtain⟨bu,bv,aR,ba⟩:=aq.ns_shape;subst aR
  intro U
  refine g9 U (.c rfl (fun _ h_=>ii h_ rfl rfl U36 jA (k) rfl hk)<|.fieldAddrQ 0 rfl U59 rfl (s:=0) (by kernel_rfl) rfl<|.loadAt1 (aD ai rfl) (q:=0) rfl rfl rfl U3 rfl<|.lss rfl rfl<|.move rfl .nil) fun Y U=>bc U 29 ?_ ?_
  ·
   intro ar U;try simp only [QQ,Qax] at ar
   refine gz hK6 U (.sk<|.sk<|.sk<|.sk<|.sk<|.sk<|.sk<|.pickT rfl rfl<|.move rfl<|.sk<|.sk<|.sk<|.sk<|.sk<|.sk<|.sk<|.sk<|.pickT rfl rfl<|.nil) fun Y U=>wct U ?_
   replace U:=U.oz [0,1,2,7,20,29,38,47]
   refine hC U (.assign rfl .nil) fun Y U=>rt1 U ?_
   exact⟨false,rfl,iff_of_false (by simp) (fun h=>by have h9:=h.2.2 k hk;rw[rX hes] at h9;dsimp only at h9;omega),ai.below⟩
  intro ar U;try simp only [QQ,Qax] at ar
  refine g9 U (.moveZ rfl<|.moveZ rfl .nil) fun Y U =>?_
  obtain⟨bb,bd,be,aS,bf,aT,aE⟩:=h0.extA (k) (r:=[.v (.int .i64 xb),.ns .u8 xd]) (iB hes)
  revert U
  cases aS
  rcases aT with _|⟨ae,_|⟨au,_|_⟩⟩
  obtain rfl:=ae.v_out
  clear ae
  obtain⟨bw,bx,aU,bg⟩:=au.ns_shape;subst aU
  intro U
  refine g9 U (.g rfl rfl rfl rfl (fun _ h_=>ii h_ rfl rfl U36 jA (k) rfl hk)<|.fieldAddrQZ 0 rfl U59 rfl (s:=0) (by kernel_rfl) rfl<|.loadAt1Z (aE ai rfl) (q:=0) rfl rfl rfl U3 rfl<|.moveZ rfl<|.geqZ rfl rfl<|.pickF rfl rfl<|.move rfl .nil) fun Y U=>bc U 38 ?_ ?_
  ·
   intro av U;try simp only [QQ,Qax] at av
   refine gz hK6 U (.sk<|.sk<|.sk<|.sk<|.sk<|.sk<|.sk<|.sk<|.pickT rfl rfl<|.nil) fun Y U=>wct U ?_
   replace U:=U.oz [0,1,2,7,20,29,38,47]
   refine hC U (.assign rfl .nil) fun Y U=>rt1 U ?_
   exact⟨false,rfl,iff_of_false (by simp) (fun h=>by have h9:=h.2.2 k hk;rw[rX hes] at h9;dsimp only at h9;omega),ai.below⟩
  intro av U;try simp only [QQ,Qax] at av
  refine g9 U (.moveZ rfl<|.moveZ rfl .nil) fun Y U =>?_
  obtain⟨bh,bi,bj,aV,bk,aW,aF⟩:=h0.extA (k) (r:=[.v (.int .i64 xb),.ns .u8 xd]) (iB hes)
  revert U
  cases aV
  rcases aW with _|⟨ag,_|⟨aw,_|_⟩⟩
  obtain rfl:=ag.v_out
  clear ag
  obtain⟨bz,bA,aX,bm⟩:=aw.ns_shape;subst aX
  intro U
  refine gz hK6 U (.g rfl rfl rfl rfl (fun _ h_=>ii h_ rfl rfl U36 jA (k) rfl hk)<|.fieldAddrQZ 1 rfl U59 rfl (s:=0) (by kernel_rfl) rfl<|.loadAt1Z (aF ai rfl) (q:=1) rfl rfl rfl U22 rfl<|.lenZ rfl U22<|.moveZ rfl<|.neqZ rfl rfl<|.pickF rfl rfl<|.nil) fun Y U=>bc U 47 ?_ ?_
  ·
   intro ax U;try simp only [QQ,Qax] at ax
   refine wct U ?_
   replace U:=U.oz [0,1,2,7,20,29,38,47]
   refine hC U (.assign rfl .nil) fun Y U=>rt1 U ?_
   exact⟨false,rfl,iff_of_false (by simp) (fun h=>by have h9:=h.2.2 k hk;rw[rX hes] at h9;dsimp only at h9;omega),ai.below⟩
  intro ax U;try simp only [QQ,Qax] at ax
  refine wcf U<|zss (hK5 _ _ ?_)
  replace U:=U.oz [0,1,2,7,20,29,38,47]
  refine hC U (.assign rfl .nil) fun Y U=>wp_block<|wp_loop_ghost (fun g a w => ∃ j:Nat,j≤k∧g=k - j∧(∀ i,i<j→(l.getD i i0).1≠xb)∧Has 64 [(0,.int .i64 bl),(1,.int .i64 sz),(2,.slice (some ⟨aN,aO,none⟩) l.length c),(7,.int .i64 k),(8,.int .i64 j)] a∧MemOk (cn w0) w0 [] w) (k) ?_ ?_
  · exact⟨0,Nat.zero_le _,rfl,(fun i hi=>by omega),U.only [0,1,2,7,8],ai.only []⟩
  clear U ai
  rintro g Y bn ⟨j,hjk,hg2,hall2,U,ay⟩
  refine wsk fun K7 hK7=>hC U (.move rfl<|.move rfl<|.lss rfl rfl .nil) fun Y U=>bc U 50 ?_ ?_
  ·
   intro ah U;try simp only [QQ,Qax] at ah
   have hj:j<k:=by omega
   obtain⟨⟨yb,yd⟩,hej⟩:∃ e,l[j]? = some e:=⟨_,List.getElem?_eq_getElem (by omega)⟩
   refine wct U<|zss<|hK7 _ _<|wsk fun K8 hK8=>wp_block<|wsk fun K9 hK9 =>?_
   obtain⟨aY,aZ,a0,aG,a1,aH,az⟩:=h0.extA (j) (r:=[.v (.int .i64 yb),.ns .u8 yd]) (iB hej)
   revert U
   cases aG
   rcases aH with _|⟨ab,_|⟨aj,_|_⟩⟩
   obtain rfl:=ab.v_out
   clear ab
   obtain⟨bo,bp,aI,a2⟩:=aj.ns_shape;subst aI
   intro U
   obtain⟨a3,a4,a5,aJ,a6,aK,aA⟩:=h0.extA (k) (r:=[.v (.int .i64 xb),.ns .u8 xd]) (iB hes)
   revert U
   cases aJ
   rcases aK with _|⟨ac,_|⟨ak,_|_⟩⟩
   obtain rfl:=ac.v_out
   clear ac
   obtain⟨bq,br,aL,a7⟩:=ak.ns_shape;subst aL
   intro U
   have aB:MemOk _ _ [] _:=ay.only [];clear ay
   refine region_p 11 (B:=[]) (aB.to trivial) aB (by kernel_rfl) (fun bs aM aC =>?_);clear aB
   refine goR aM [0,1,2,3,4,5,6,7,8,9,10] [4,9] 11 0 2047 U (aC.to trivial) (.move rfl<|.move rfl<|.p (fun _ _ h_=>ii h_ rfl rfl U36 jA (j) rfl (by omega))<|.fieldAddrQ 0 rfl U59 rfl (s:=0) (by kernel_rfl) rfl<|.loadAt1 (fun _ h_=>(az h_ rfl)) (q:=0) rfl rfl rfl U3 rfl<|.move rfl<|.move rfl<|.p (fun _ _ h_=>ii h_ rfl rfl U36 jA (k) rfl hk)<|.fieldAddrQ 0 rfl U59 rfl (s:=0) (by kernel_rfl) rfl<|.loadAt1 (fun _ h_=>(aA h_ rfl)) (q:=0) rfl rfl rfl U3 rfl<|.eql rfl rfl .nil) fun Y U=>wad<|hK9 _ _<|bc U 63 ?_ ?_
   ·
    intro aa U;try simp only [QQ,Qax] at aa
    refine wct U ?_
    replace U:=U.oz [0,1,2,7,8,63]
    refine hC U (.assign rfl .nil) fun Y U=>rt1 U ?_
    exact⟨false,rfl,iff_of_false (by simp) (fun h=>by have h9:=(h.2.2 k hk).2.2.2;rw[rX hes] at h9;exact h9 ⟨_,List.mem_of_getElem? (i:=j) (by rw[List.getElem?_take_of_lt hj];exact hej),aa⟩),aC.below⟩
   intro aa U;try simp only [QQ,Qax] at aa
   refine wcf U<|zss (hK8 _ _ ?_)
   replace U:=U.oz [0,1,2,7,8,63]
   refine wp_region_lit<|g9 U (.move rfl<|.inc (j+1)<|.assign rfl .nil) fun Y U=>wpList_nil ?_
   show ∃ n',n'<_∧_
   exact⟨k - (j+1),by omega,j+1,by omega,rfl,rY hall2 hej aa,U.only [0,1,2,7,8],aC.only []⟩
  intro ah U;try simp only [QQ,Qax] at ah
  have hjk2:j=k:=by omega
  rw[hjk2] at hall2
  refine wcf U<|wp_exit<|hK4 _ _<|wp_region_lit<|g9 U (.move rfl<|.inc (k+1)<|.assign rfl .nil) fun Y U=>wpList_nil ?_
  show ∃ n',n'<_∧_
  exact⟨l.length - (k+1),by omega,k+1,by omega,rfl,mL hall hes (by omega) (by omega) (qh hall2 (by omega)),U.only [0,1,2,7],ay.only []⟩
 intro ap U;try simp only [QQ,Qax] at ap
 revert U
 obtain rfl:k=l.length:=by omega
 intro U
 refine wcf U<|wp_exit<|hK2 _ _<|hC U (.assign rfl .nil) fun Y U=>rt1 U ?_
 exact⟨true,rfl,iff_of_true rfl ⟨by omega,by omega,hall⟩,ai.below⟩
theorem iH(vo bl sz pe to ne fl:Int)(hi)(pp pn pw:Option Addr)(np cp nn cn nw cw:Nat)(w0:World) :
   Calls Tryz.prog 39 #[.agg #[.int .i64 vo,.int .i64 bl,.int .i64 sz,.int .i64 pe,.slice pp np cp,.int .i64 to,.int .i64 ne,.bool hi,.int .i64 fl,.slice pn nn cn,.slice pw nw cw]] w0 fun e w'=>e=.returned (.int .i64 (nw:Int))∧Below w0.heap.size w0 w':=by
 refine i9 Tryz.func39 rfl Tryz.ntmps39 fun Y U =>?_
 have m0:=MemOk.start (fun _=>False) w0
 refine zsr fun K0 hK0=>plz<|iu U m0 4 (cs:=[_,_,_,_,_,_,_,_,_,_,_]) rfl rfl rfl fun g1 Y w2 U m2 _ _=>gz hK0 U (.assign rfl .nil) fun Y U=>hC U (.fa 10 rfl U51<|.lb m2 4 U49 rfl rfl rfl<|.len rfl U49<|.assign rfl .nil) fun Y U=>rt1 U ?_
 exact⟨rfl,m2.below⟩
theorem tL(vo bl sz pe to ne fl:Int)(hi)(pins:List Int)(pp pn pw:Option Addr)(np cp cn9 nw cw:Nat)(w0:World)(h1:Rd (fun _=>True) w0 (.slice pn pins.length cn9) (.ns .i64 pins))(hp:pins.length≤1000000) :
   Calls Tryz.prog 130 #[.agg #[.int .i64 vo,.int .i64 bl,.int .i64 sz,.int .i64 pe,.slice pp np cp,.int .i64 to,.int .i64 ne,.bool hi,.int .i64 fl,.slice pn pins.length cn9,.slice pw nw cw]] w0 fun e w'=>e=.returned (.int .i64 (nO nw pins))∧Below w0.heap.size w0 w':=by
 refine i9 Tryz.func130 rfl Tryz.ntmps130 fun Y U =>?_
 have m0:=MemOk.start (fun _=>False) w0
 refine zsr fun K0 hK0=>plz<|iu U m0 20 (cs:=[_,_,_,_,_,_,_,_,_,_,_]) rfl rfl rfl fun g1 Y w2 U m2 _ _=>gz hK0 U (.assign rfl .nil) fun Y U=>zsr fun K1 hK1=>g9 U (.loadBR m2 (i:=20) rfl rfl U51 rfl hH (by simp) (by dsimp only [List.drop,List.take] <;> rfl) .nil) fun Y U=>plz<|ecb U Tryz.func39 rfl m2 (iH _ _ _ _ _ _ _ _ _ _ _ _ _ _ _ _ _ _) fun Y w6 U m7=>gz hK1 U (.assign rfl .nil) fun Y U=>wsk fun K2 hK2=>hC U (.assign rfl .nil) fun Y U=>wp_block<|wp_loop_ghost (fun g a w => ∃ (k B:Nat),k≤pins.length∧g=pins.length - k∧Has 22 [(1,.pointer (some ⟨B,0,none⟩)),(3,.int .i64 (nO nw (pins.take k))),(4,.int .i64 k)] a∧MemOk (cn w0) w0 [(9,.box B 51 [.int .i64 vo,.int .i64 bl,.int .i64 sz,.int .i64 pe,.slice pp np cp,.int .i64 to,.int .i64 ne,.bool hi,.int .i64 fl,.slice pn pins.length cn9,.slice pw nw cw])] w) (pins.length) ?_ ?_
 · exact⟨0,_,Nat.zero_le _,rfl,U.only [1,3,4],m7.ren [(9,20)] (by decide)⟩
 clear U m7
 rintro g Y ai ⟨k,B,hkl,hg,U,ab⟩
 refine wsk fun K3 hK3=>hC U (.move rfl<|.fa 9 rfl U51<|.lb ab 9 U48 rfl rfl rfl<|.len rfl U48<|.lss rfl rfl .nil) fun Y U=>bc U 11 ?_ ?_
 ·
  intro aa U;try simp only [QQ,Qax] at aa
  have hk:k<pins.length:=by omega
  refine wct U<|zss<|hK3 _ _<|wsk fun K4 hK4=>wp_block<|wp_region_lit<|g9 U (.move rfl<|.fa 9 rfl U51<|.lb ab 9 U48 rfl rfl rfl<|.move rfl .nil) fun Y U =>?_
  obtain⟨ae,ag,ad,ah,ac⟩:=h1.extN (k) hk
  revert U
  cases ad
  intro U
  refine gz hK4 U (.c rfl (fun _ h_=>ii h_ rfl rfl U48 iP (k) rfl hk)<|.loadAt1 (ac ab rfl) (q:=0) rfl rfl rfl U2 rfl<|.c rfl (fun _ h_=>wK h_ rfl rfl rfl)<|.assign rfl<|.nil) fun Y U =>?_
  replace U:=U.oz [1,3,4]
  refine wp_region_lit<|g9 U (.move rfl<|.inc (k+1)<|.assign rfl .nil) fun Y U=>wpList_nil ?_
  show ∃ n',n'<_∧_
  rw[pN hk] at U
  exact⟨pins.length - (k+1),by omega,k+1,_,by omega,rfl,U.only [1,3,4],ab.only [9]⟩
 intro aa U;try simp only [QQ,Qax] at aa
 revert U
 obtain rfl:k=pins.length:=by omega
 intro U
 refine wcf U<|wp_exit<|hK2 _ _<|hC U (.move rfl<|.assign rfl .nil) fun Y U=>rt1 U ?_
 exact⟨by rw[List.take_length],ab.below⟩
theorem tM(es:List (Int×List Int))(p0 c0 nn)(w0:World)(h0:Rd (fun _=>True) w0 (.slice p0 nn c0) (.l 2 (es.map itD)))(hl:es.length≤1000000)(hok:j3 es) :
   Calls Tryz.prog 145 #[.slice p0 nn c0] w0 fun e w' => ∃ p c,e=.returned (.slice p (es.map itD).length c)∧Rd (New w0) w' (.slice p (es.map itD).length c) (.l 2 (es.map itD))∧Below w0.heap.size w0 w':=by
 obtain rfl:nn=es.length:=by obtain⟨pq,cq,hv,_⟩:=h0.l_shape;injection hv with _ e2 _;rw[List.length_map] at e2;exact e2
 refine i9 Tryz.func145 rfl Tryz.ntmps145 fun Y U =>?_
 have m0:=MemOk.start (fun _=>False) w0
 refine hC U (.assign rfl .nil) fun Y U=>hC U (.assign rfl .nil) fun Y U=>wsk fun K0 hK0=>hC U (.assign rfl .nil) fun Y U=>wp_block<|wp_loop_ghost (fun g a w => ∃ (k:Nat) (p:Option Addr) (c:Nat),k≤es.length∧g=es.length - k∧Has 27 [(0,.slice p0 es.length c0),(3,.slice p ((es.take k).map itD).length c),(4,.int .i64 k)] a∧MemOk (cn w0) w0 [(9,.row (.slice p ((es.take k).map itD).length c) 59 2 ((es.take k).map itD))] w) (es.length) ?_ ?_
 · have mz:=m0.nilR 9 59 2
   exact⟨0,_,_,Nat.zero_le _,rfl,U.only [0,3,4],mz.only [9]⟩
 clear U m0
 rintro g Y w4 ⟨k,p,c,hkl,hg,U,m4⟩
 refine wsk fun K1 hK1=>hC U (.move rfl<|.move rfl<|.len rfl U36<|.lss rfl rfl .nil) fun Y U=>bc U 8 ?_ ?_
 ·
  intro hb9 U;try simp only [QQ,Qax] at hb9
  have hk:k<es.length:=by omega
  obtain⟨⟨xb,xd⟩,hes⟩:∃ e,es[k]? = some e:=⟨_,List.getElem?_eq_getElem hk⟩
  have hed:=hok _ (List.mem_of_getElem? hes)
  dsimp only at hed
  refine wct U<|zss<|hK1 _ _<|wsk fun K2 hK2=>wp_block ?_
  obtain⟨aA,aB,aC,ai,aD,aj,ag⟩:=h0.extA (k) (r:=[.v (.int .i64 xb),.ns .u8 xd]) (iB hes)
  revert U
  cases ai
  rcases aj with _|⟨aa,_|⟨ad,_|_⟩⟩
  obtain rfl:=aa.v_out
  clear aa
  obtain⟨aK,aL,ak,aE⟩:=ad.ns_shape;subst ak
  intro U
  obtain⟨aF,aG,aH,al,aI,ao,ah⟩:=h0.extA (k) (r:=[.v (.int .i64 xb),.ns .u8 xd]) (iB hes)
  revert U
  cases al
  rcases ao with _|⟨ab,_|⟨ac,_|_⟩⟩
  obtain rfl:=ab.v_out
  clear ab
  obtain⟨aM,aN,ap,aJ⟩:=ac.ns_shape;subst ap
  intro U
  have aq:=m4.oz [9]
  refine region_p 14 (B:=[(9,_)]) (aq.to i1l) aq (by kernel_rfl) (fun aO ae ar =>?_);clear aq
  refine goR ae [0,1,2,3,4,5,6,7,8,9,10] [5,10] 11 0 2047 U (ar.to i1l) (.move rfl<|.move rfl<|.move rfl<|.p (fun _ _ h_=>ii h_ rfl rfl U36 jA (k) rfl hk)<|.fieldAddrQ 0 rfl U59 rfl (s:=0) (by kernel_rfl) rfl<|.loadAt1 (fun _ h_=>(ag h_ rfl)) (q:=0) rfl rfl rfl U3 rfl<|.move rfl<|.move rfl<|.p (fun _ _ h_=>ii h_ rfl rfl U36 jA (k) rfl hk)<|.fieldAddrQ 1 rfl U59 rfl (s:=0) (by kernel_rfl) rfl<|.loadAt1 (fun _ h_=>(ah h_ rfl)) (q:=1) rfl rfl rfl U22 rfl .nil) fun Y U=>so 11 ?_
  refine qx U ar 102 rfl rfl (ac.now' ar rfl).ns_out.nums U22 jU (by decide) (by omega) rfl fun aP aQ Y aR U au=>⟨au.to i1l,?_⟩
  refine goA ae [12] 1 4095 8191 U (au.to i1l) (.build rfl qJ yh rfl (by dsimp only [iY,List.set] <;> rfl) .nil) fun Y U =>?_
  have av:=au.freezeN 102 rfl
  refine so 13 ?_
  refine iN U av 103 (mm:=2) rfl (.cons rfl rfl (.cons (.v _) (.cons (av.rd (i:=102) rfl) .nil)) .nil) U36 si rfl rfl rfl rfl rfl fun aS Y aT U aw=>⟨aw.to i1l,?_⟩
  have ax:=aw.freezeR 103 rfl
  refine se 14 ?_
  refine iM U ax 9 rfl rfl rfl (ax.rd (i:=103) rfl) U36 si rfl rfl (by decide) (by simp;omega) rfl fun aU aV Y aW U ay=>goB ae [15] 1 32767 65535 U (.assign rfl .nil) fun Y U=>wad<|hK2 _ _ ?_
  replace U:=U.oz [0,3,4]
  refine wp_region_lit<|g9 U (.move rfl<|.inc (k+1)<|.assign rfl .nil) fun Y U=>wpList_nil ?_
  show ∃ n',n'<_∧_
  have hE:(es.take k).map itD++[[D.v (.int .i64 xb),.ns .u8 xd]]=(es.take (k+1)).map itD:=by rw[jG hes,List.map_append];rfl
  rw[hE] at ay U
  exact⟨es.length - (k+1),by omega,k+1,_,_,by omega,rfl,U.only [0,3,4],ay.only [9]⟩
 intro hb9 U;try simp only [QQ,Qax] at hb9
 revert U
 obtain rfl:k=es.length:=by omega
 intro U
 refine wcf U<|wp_exit<|hK0 _ _<|hC U (.move rfl<|.assign rfl .nil) fun Y U=>rt1 U ?_
 rw[List.take_length] at *
 have az:=m4.freezeR 9 rfl
 exact⟨_,_,rfl,az.outF (i:=9) rfl,az.below⟩
theorem l3(X)(vo bl sz pe to ne fl:Int)(hi)(place pins:List Int)(ws:List (Int×List (Int×List Int)))(items:List (Int×List Int))(pp pn pw:Option Addr)(cp cn9 cw:Nat)(pi ci w0)(hl:ws.length≤900000)(hil:items.length≤1000000)(hio:j3 items)(m0:MemOk X w0 [(1,.dat (.slice pp place.length cp) (.ns .i64 place)),(2,.dat (.slice pn pins.length cn9) (.ns .i64 pins)),(3,.dat (.slice pw (ws.map wrD).length cw) (.l 2 (ws.map wrD))),(4,.dat (.slice pi items.length ci) (.l 2 (items.map itD)))] w0) :
   Calls Tryz.prog 129 #[.agg #[.int .i64 vo,.int .i64 bl,.int .i64 sz,.int .i64 pe,.slice pp place.length cp,.int .i64 to,.int .i64 ne,.bool hi,.int .i64 fl,.slice pn pins.length cn9,.slice pw (ws.map wrD).length cw],.slice pi items.length ci] w0 fun e w' => ∃ p c,e=.returned (.agg #[.int .i64 vo,.int .i64 bl,.int .i64 sz,.int .i64 pe,.slice pp place.length cp,.int .i64 to,.int .i64 ne,.bool hi,.int .i64 fl,.slice pn pins.length cn9,.slice p ((ws++[((ws.length:Int)+1,items)]).map wrD).length c])∧MemOk X w0 [(1,.dat (.slice pp place.length cp) (.ns .i64 place)),(2,.dat (.slice pn pins.length cn9) (.ns .i64 pins)),(3,.dat (.slice pw (ws.map wrD).length cw) (.l 2 (ws.map wrD))),(4,.dat (.slice pi items.length ci) (.l 2 (items.map itD))),(7,.dat (.slice p ((ws++[((ws.length:Int)+1,items)]).map wrD).length c) (.l 2 ((ws++[((ws.length:Int)+1,items)]).map wrD)))] w':=by
 refine iZ Tryz.func129 rfl Tryz.ntmps129 fun Y U=>zsr fun K0 hK0=>plz<|iu U m0 20 (cs:=[_,_,_,_,_,_,_,_,_,_,_]) rfl rfl rfl fun g1 Y w2 U m2 _ _=>plz<|hZ U m2 21 iA rfl fun g3 Y w4 U m4 _ _=>znl<|hK0 _ _<|wsk fun K1 hK1 =>?_
 have m5:=m4.oz [1,2,3,4,20,21]
 refine region_p 12 (B:=[(1,_),(2,_),(3,_),(4,_),(20,_),(21,_)]) (m5.to i6l) m5 (by kernel_rfl) (fun w6 hP6 m6 =>?_);clear m5
 refine goR hP6 [0,1,3,6] [1,3] 4 0 75 U (m6.to i6l) (.fa 10 rfl U51<|.lb hh 20 U49 rfl rfl rfl<|.loadBR hh (i:=20) rfl rfl U51 rfl hH (by simp) (by dsimp only [List.drop,List.take] <;> rfl)<|.move rfl .nil) fun Y U =>?_
 have ah:=m6.nilR 22 103 2
 refine so 2 ?_
 refine iM U ah 22 rfl rfl rfl (ah.rd (i:=3) rfl) U49 pV rfl rfl (by decide) (by simp;omega) rfl fun ap aq Y ar U ai=>⟨ai.to i6l,?_⟩
 refine so 4 ?_
 refine ecb U Tryz.func39 rfl ai (iH _ _ _ _ _ _ _ _ _ _ _ _ _ _ _ _ _ _) fun Y au U aa=>⟨aa.to i6l,?_⟩
 refine goA hP6 [5] 1 95 127 U (aa.to i6l) (.add rfl rfl (r:=(ws.length:Int)+1) (by rw[List.length_map];exact IntWalk.i64_in _ (by omega)) .nil) fun Y U=>so 7 ?_
 refine ecl U Tryz.func145 rfl (tM items _ _ _ _ ((aa.rd (i:=4) rfl).any) hil hio) ?_
 rintro e av ⟨aw,ax,rfl,ac,ad⟩
 have ab:=aa.callF 23 rfl ad ac
 refine⟨_,rfl,?_⟩;intro Y U
 refine⟨ab.to i6l,?_⟩
 refine goA hP6 [8] 1 255 511 U (ab.to i6l) (.build rfl qr wz rfl (by dsimp only [iY,List.set] <;> rfl) .nil) fun Y U=>so 9 ?_
 refine iN U ab 24 (mm:=2) rfl (.cons rfl rfl (.cons (.v _) (.cons (ab.rd (i:=23) rfl) .nil)) .nil) U49 pV rfl rfl rfl rfl rfl fun ay Y az U aj=>⟨aj.to i6l,?_⟩
 have ak:=aj.freezeR 24 rfl
 refine so 10 ?_
 refine iM U ak 22 rfl rfl rfl (ak.rd (i:=24) rfl) U49 pV rfl rfl (by decide) (by simp;omega) rfl fun aA aB Y aC U ae=>⟨ae.to i6l,?_⟩
 refine goA hP6 [11] 1 2047 4095 U (ae.to i6l) (.fa 10 rfl U51 .nil) fun Y U=>se 12 ?_
 refine st1 U ae 20 n5 fun aD al _ =>?_
 refine wad<|hK1 _ _ ?_
 replace U:=U.oz [2,4]
 refine zsr fun K2 hK2=>g9 U (.loadBR al (i:=20) rfl rfl U51 rfl hH (by simp) (by dsimp only [List.drop,List.take] <;> rfl) .nil) fun Y U=>plz (stw U al 21 hH fun aE ag _ =>?_)
 refine znl<|hK2 _ _<|rtd (kG (fn:=Tryz.f129) U ag (i:=21) rfl rfl rfl U51 rfl hH ?_)
 have hE:[]++ws.map wrD++[[D.v (.int .i64 ((ws.length:Int)+1)),.l 2 (items.map itD)]]=(ws++[((ws.length:Int)+1,items)]).map wrD:=by rw[List.map_append];rfl
 rw[hE] at ag ⊢
 have ao:=ag.freezeR 22 rfl
 exact⟨_,_,rfl,ao.ren [(1,1),(2,2),(3,3),(4,4),(7,22)] (by decide)⟩
end
section

end
section
def lX:Nat→Nat→List Int
 | 0,n => [(n:Int)]
 | f+1,n=>if n<128 then [(n:Int)] else ((n % 128+128:Nat):Int) :: lX f (n / 128)
def enc(n:Int):List Int:=lX 9 n.toNat
def im(l:List Int):List Int:=l.flatMap enc
theorem x6(y:Nat):bits .or .u8 ((y:Int) % 256) 128=((y % 128+128:Nat):Int):=by
 have h:∀ z:Fin 256,bits .or .u8 ((z.val:Nat):Int) 128=((z.val % 128+128:Nat):Int):=by decide +kernel
 have:=h ⟨y % 256,by omega⟩
 simp only at this
 rw[show((y:Int) % 256)=((y % 256:Nat):Int) by omega,this]
 omega
theorem pI:∀ (f n:Nat),(lX f n).length≤f+1∧1≤(lX f n).length
 | 0,n=>by simp [lX]
 | f+1,n=>by
   unfold lX
   have:=pI f (n / 128)
   split <;> simp <;> omega
theorem i1(n:Int):(enc n).length≤10∧1≤(enc n).length:=pI 9 _
theorem ic:∀ l:List Int,(im l).length≤10*l.length
 | []=>by simp [im]
 | a :: l=>by
   have h1:=(i1 a).1
   have h2:=ic l
   simp only [im,List.flatMap_cons,List.length_append,List.length_cons] at h2 ⊢
   omega
theorem jH(l:List Int)(k)(h:k<l.length):im (l.take (k+1))=im (l.take k)++enc (l.getD k 0):=by
 rw[List.take_succ_eq_append_getElem h]
 simp only [im,List.flatMap_append,List.flatMap_cons,List.flatMap_nil,List.append_nil,List.getD,List.getElem?_eq_getElem h,Option.getD_some]
theorem oE(l:List Int)(k):(l.take k).length≤k:=List.length_take_le _ _
set_option maxRecDepth 100000 in
set_option maxHeartbeats 2000000 in
theorem wb(v)(ns:List Int)(w:World)(hv:IsNums .u64 w v ns)(hb:∀ j,j<ns.length→0≤ns.getD j 0∧ns.getD j 0≤18446744073709551615)(hl:ns.length≤1000) :
   Calls Tryz.prog 104 #[v] w fun e w' => ∃ u,e=.returned u∧w'.ownsRow w.heap.size 5 1 u (im ns).length ((im ns).map (Value.int .u8))∧Below w.heap.size w w':=by
 obtain⟨p,c,rfl,h⟩:=hv
 have H:=Lib.hid h
 have HB:=Lib.hid hb
 clear h hb
 go_enter Tryz.func104,Tryz.ntmps104
 go_wp2
 go_loopw [3,8] (fun u i wr => ∃ k:Nat,k≤ns.length∧i=.int .i64 k∧wr.ownsRow w.heap.size 5 1 u (im (ns.take k)).length ((im (ns.take k)).map (Value.int .u8))∧Below w.heap.size w wr) (fun _ i _=>ns.length - (intOf i).toNat)
 case atStart=>exact⟨0,Nat.zero_le _,rfl,World.ownsRow_nil _ _ _ _,Below.refl _ _⟩
 case round =>
   obtain⟨k,hk,rfl,hown,hbel⟩:=hrel
   by_cases hlt:k<ns.length
   · obtain h0|⟨b,off,rfl,hblk,hcell⟩:=H.out
     · omega
     have hc:wr.cell? ⟨b,off+k,none⟩=some (.int .u64 (ns.getD k 0)):=by rw[hbel.cell hblk];exact hcell k hlt
     obtain⟨x0,x1⟩:=HB.out k hlt
     obtain⟨x,hx⟩:∃ x:Nat,ns.getD k 0=(x:Int):=⟨(ns.getD k 0).toNat,by omega⟩
     rw[hx] at hc x0 x1
     have HX:=Lib.hid hx
     clear hcell hx
     have hlen:=ic (ns.take k)
     have hlt2:=oE ns k
     generalize hN:(im (ns.take k)).length=N at hown hlen
     have HN:=Lib.hid hN
     clear hN
     have hbz:=hbel.size
     obtain⟨wo,rfl⟩:∃ wo:World,wo=wr:=⟨_,rfl⟩
     go_wp2
     go_loopw [3,5] (fun u y wr => ∃ (f n:Nat) (dn:List Int),y=.int .u64 (n:Int)∧n<128 ^ (f+1)∧(n:Int)≤18446744073709551615∧dn++lX f n=enc x∧wr.ownsRow w.heap.size 5 1 u (N+dn.length) ((im (ns.take k)++dn).map (Value.int .u8))∧Below w.heap.size w wr) (fun _ y _=>(intOf y).toNat)
     case atStart=>exact⟨9,x,[],rfl,by omega,by omega,rfl,by simpa using hown,hbel⟩
     case round =>
       obtain⟨f,n,dn,rfl,hn1,hn2,hdn,hown2,hbel2⟩:=hrel
       have hdl:dn.length≤10:=by
         have h1:=(i1 x).1
         rw[← hdn] at h1
         simp at h1;omega
       have hsz2:=hbel2.size
       have HD:=Lib.hid hdn
       have HP:=Lib.hid hn1
       clear hdn hn1
       have ho:=x6 n
       by_cases hge:128≤n
       · go_wp2_with (at_builtin;refine lW rfl _ _ 22 rfl w.heap.size 5 .u8 1 Tryz.underlying22 lG (by omega) _ _ _ rfl hown2 _ 1 rfl (by omega) hsz2 ?_;intro v' w' hown' hb')
         rcases f with _|f
         · exfalso;have:=HP.out;omega
         go_roundw
         case rel =>
           refine⟨f,n / 128,dn++[((n % 128+128:Nat):Int)],by simp,?_,by omega,?_,?_,hbel2.trans hb'⟩
           · have:=HP.out
             rw[Nat.pow_succ] at this
             exact Nat.div_lt_of_lt_mul (by rw[Nat.mul_comm];exact this)
           · rw[← HD.out,lX,if_neg (by omega)];simp
           rw[show N+(dn++[((n % 128+128:Nat):Int)]).length=N+dn.length+1 by simp;omega]
           simpa using hown'
         case measure=>simp [intOf];omega
       have hen:lX f n=[(n:Int)]:=by cases f <;> simp [lX];omega
       have HE:=Lib.hid hen
       clear hen ho
       go_wp2_with (at_builtin;refine lW rfl _ _ 22 rfl w.heap.size 5 .u8 1 Tryz.underlying22 lG (by omega) _ _ _ rfl hown2 _ 1 rfl (by omega) hsz2 ?_;intro v' w' hown' hb')
       have hd2:=HD.out
       rw[HE.out] at hd2
       go_roundw
       case rel =>
         refine⟨k+1,by omega,by go_num,?_,hbel2.trans hb'⟩
         rw[jH _ _ hlt,HX.out,← hd2,List.length_append,HN.out,List.length_append]
         rw[show N+(dn.length + [(n:Int)].length)=N+dn.length+1 by simp;omega]
         simpa using hown'
       case measure=>simp [intOf];omega
   obtain rfl:k=ns.length:=by omega
   rw[List.take_length] at hown
   go_wp2
   go_ret
   exact⟨_,rfl,hown,hbel⟩
end
section
set_option maxRecDepth 100000 in
set_option maxHeartbeats 2000000 in
theorem tC(n:Nat)(w:World)(hn:n≤1000000) :
   Calls Tryz.prog 116 #[.slice none 0 0,.int .i64 n] w fun e w' => ∃ u,e=.returned u∧w'.ownsRow w.heap.size 5 1 u 0 []∧Below w.heap.size w w':=by
 by_cases h0:n=0
 · subst h0
   go_enter Tryz.func116,Tryz.ntmps116
   go_wp2
   go_ret
   exact⟨_,rfl,World.ownsRow_nil _ _ _ _,Below.refl _ _⟩
 obtain⟨i0,hi,hz0,hz1,hz2⟩:=info_parts lG
 have hbn:n*i0.bytes≤140737488355328:=by rw[hz2];omega
 have hrz:∀ ty,(Builtin.append_ #[22,3] ty #[.slice none 0 0,.int .i64 (n:Int)]).run Tryz.prog w =
     .ok (.slice (some ⟨w.heap.size,0,none⟩) n (grownCap w n 0 5)) (w.drew.alloc (.cells (#[]++Builtin.zeroCells (Value.int .u8 0).cells n++Builtin.zeroCells (Value.int .u8 0).cells (grownCap w n 0 5 - n)) 5)):=fun ty=>by
   have h:=Lib.run_append_grow_zeros w 22 3 ty 5 i0 (.int .u8 0) .i64 .i64 Tryz.underlying22 Tryz.underlying3 hi hz0 none 0 0 [] (run_firstCells_none w.drew i0.size 0 0 0) n (by omega) (by omega) (by omega) (by omega) (by omega)
     (by rw[Nat.zero_add];exact growslice_fits (by omega) hbn)
   rw[Nat.zero_add] at h
   exact h
 have hG:=grownCap_ge w n 0 5
 have hM:=grownCap_le_maxLen w n 0 5 (by unfold maxLen;omega)
 generalize grownCap w n 0 5=G at hrz hG hM
 have hown:(w.drew.alloc (.cells (#[]++Builtin.zeroCells (Value.int .u8 0).cells n++Builtin.zeroCells (Value.int .u8 0).cells (G - n)) 5)).ownsRow w.heap.size 5 1 (.slice (some ⟨w.heap.size,0,none⟩) 0 G) 0 []:=by
   refine World.ownsRow_made w.drew _ G (Nat.le_refl _) hM ?_
   have h1:(Value.int .u8 0).cells.size=1:=rfl
   simp [size_zeroCells,h1]
   omega
 have hbel:Below w.heap.size w (w.drew.alloc (.cells (#[]++Builtin.zeroCells (Value.int .u8 0).cells n++Builtin.zeroCells (Value.int .u8 0).cells (G - n)) 5)):=((Below.refl _ w).drew).alloc (Nat.le_refl _) _
 generalize (w.drew.alloc (.cells (#[]++Builtin.zeroCells (Value.int .u8 0).cells n++Builtin.zeroCells (Value.int .u8 0).cells (G - n)) 5))=W' at hrz hown hbel
 have HO:=Lib.hid hown
 have HB:=Lib.hid hbel
 clear hown hbel hi hz0 hz1 hz2
 unfold maxLen at hM
 go_enter Tryz.func116,Tryz.ntmps116
 go_wp2_with (at_builtin;refine Lib.wpList_append_run _ rfl _ _ _ _ rfl _ _ rfl rfl _ _ (hrz _) ?_)
 all_goals (go_ret;exact⟨_,rfl,HO.out,HB.out⟩)
def IsLists(w:World)(v:Value)(ls:List (List Int)):Prop:=
 ∃ a c,v=.slice a ls.length c∧(ls.length=0∨∃ b off,a=some ⟨b,off,none⟩∧b<w.heap.size∧∀ j,j<ls.length→∃ u,w.cell? ⟨b,off+j,none⟩=some u∧IsNums .u8 w u (ls.getD j []))
def i4(ls:List (List Int)):Nat:=ls.flatten.length
theorem ln(ls:List (List Int))(k)(h:k<ls.length):(ls.take (k+1)).flatten=(ls.take k).flatten++ls.getD k []:=by
 rw[List.take_succ_eq_append_getElem h];simp only [List.flatten_append,List.flatten_cons,List.flatten_nil,List.append_nil,List.getD,List.getElem?_eq_getElem h,Option.getD_some]
theorem lY(ls:List (List Int))(k)(h:k<ls.length):i4 (ls.take (k+1))=i4 (ls.take k)+(ls.getD k []).length:=by
 unfold i4;rw[ln _ _ h,List.length_append]
theorem j8(ls:List (List Int))(k):i4 (ls.take k)≤i4 ls:=by
 have:ls.flatten=(ls.take k).flatten++(ls.drop k).flatten:=by rw[← List.flatten_append,List.take_append_drop]
 unfold i4;rw[this];simp
set_option maxRecDepth 100000 in
set_option maxHeartbeats 2000000 in
theorem tD(v:Value)(ls:List (List Int))(w:World)(hv:IsLists w v ls)(hl:ls.length≤1000)(hs:i4 ls≤1000000) :
   Calls Tryz.prog 68 #[v] w fun e w' => ∃ u,e=.returned u∧w'.ownsRow w.heap.size 5 1 u ls.flatten.length (ls.flatten.map (Value.int .u8))∧Below w.heap.size w w':=by
 obtain⟨p,c,rfl,h⟩:=hv
 have H:=Lib.hid h
 clear h
 go_enter Tryz.func68,Tryz.ntmps68
 go_wp2
 go_loop [3,11] (fun n i => ∃ k:Nat,k≤ls.length∧i=.int .i64 k∧n=.int .i64 (i4 (ls.take k):Nat)) (fun _ i=>ls.length - (intOf i).toNat)
 case atStart=>exact⟨0,Nat.zero_le _,rfl,rfl⟩
 case round =>
   obtain⟨k,hk,rfl,rfl⟩:=hrel
   have hst:=j8 ls k
   obtain⟨S0,hS0⟩:∃ S,i4 (ls.take k)=S:=⟨_,rfl⟩
   by_cases hlt:k<ls.length
   · obtain h0|⟨b,off,rfl,hblk,hcell⟩:=H.out
     · omega
     obtain⟨u,hc,pu,cu,rfl,-⟩:=hcell k hlt
     have hsn:=lY ls k hlt
     obtain⟨L,hL⟩:∃ L,(ls.getD k []).length=L:=⟨_,rfl⟩
     rw[hL] at hsn hc
     have hst2:=j8 ls (k+1)
     rw[hsn] at hst2
     rw[hS0] at hst hsn hst2 ⊢
     have HS:=Lib.hid hsn
     have H0:=Lib.hid hS0
     have H1:=Lib.hid hL
     clear hsn hS0 hcell hL
     go_wp2
     go_round
     case rel=>exact⟨k+1,by omega,by go_num,by rw[HS.out,Int.natCast_add]⟩
     case measure=>simp [intOf];omega
   obtain rfl:k=ls.length:=by omega
   rw[List.take_length] at hst ⊢
   clear hS0
   go_wp2_with fail
   refine(tC (i4 ls) w hs).mono ?_
   rintro e w1 ⟨u,rfl,hown,hb⟩
   go_wp2
   go_loopw [6,24] (fun u i wr => ∃ k:Nat,k≤ls.length∧i=.int .i64 k∧wr.ownsRow w.heap.size 5 1 u (i4 (ls.take k)) ((ls.take k).flatten.map (Value.int .u8))∧Below w.heap.size w wr) (fun _ i _=>ls.length - (intOf i).toNat)
   case atStart=>exact⟨0,Nat.zero_le _,rfl,by simpa [i4] using hown,hb⟩
   case round =>
     obtain⟨k,hk,rfl,hown,hbel⟩:=hrel
     have hst:=j8 ls k
     by_cases hlt:k<ls.length
     · obtain h0|⟨b,off,rfl,hblk,hcell⟩:=H.out
       · omega
       obtain⟨u,hc0,hu⟩:=hcell k hlt
       have hc:wr.cell? ⟨b,off+k,none⟩=some u:=by rw[hbel.cell hblk];exact hc0
       have hu2:IsNums .u8 wr u (ls.getD k []):=hu.below hbel (Nat.le_refl _)
       have HS:=Lib.hid (lY ls k hlt)
       have HF:=Lib.hid (ln ls k hlt)
       have hst2:=j8 ls (k+1)
       rw[HS.out] at hst2
       have hsz:=hbel.size
       have HU:=Lib.hid hu2
       obtain⟨S0,hS0⟩:∃ S,i4 (ls.take k)=S:=⟨_,rfl⟩
       rw[hS0] at hst hst2 hown
       have H0:=Lib.hid hS0
       obtain⟨L,hL⟩:∃ L,(ls.getD k []).length=L:=⟨_,rfl⟩
       rw[hL] at hst2
       have H1:=Lib.hid hL
       clear hcell hc0 hu hu2 hS0 hL
       go_wp2_with (at_builtin;refine ob rfl _ _ 22 rfl w.heap.size 5 .u8 1 Tryz.underlying22 lG (by omega) _ _ _ rfl hown _ _ rfl HU.out (by rw[H1.out];omega) hsz ?_;intro v' w' hown' hb')
       go_roundw
       case rel=>exact⟨k+1,by omega,by go_num,by rw[HS.out,HF.out,H0.out,List.map_append];exact hown',hbel.trans hb'⟩
       case measure=>simp [intOf];omega
     obtain rfl:k=ls.length:=by omega
     rw[List.take_length] at hown
     go_wp2
     go_ret
     exact⟨_,rfl,hown,hbel⟩
end
section
def NumsLt(N:Nat)(k:IntKind)(w:World)(v:Value)(zs:List Int):Prop:=
 ∃ a c,v=.slice a zs.length c∧zs.length≤c∧c≤9223372036854775807∧(zs.length=0∨∃ b off,a=some ⟨b,off,none⟩∧b<N∧∀ j,j<zs.length→w.cell? ⟨b,off+j,none⟩=some (.int k (zs.getD j 0)))
theorem NumsLt.below{w w':World}(h:NumsLt N k w v zs)(hb:Below N w w'):NumsLt N k w' v zs:=by
 obtain⟨a,c,rfl,hc1,hc2,h|⟨b,off,rfl,h1,h2⟩⟩:=h
 · exact⟨a,c,rfl,hc1,hc2,.inl h⟩
 refine⟨_,c,rfl,hc1,hc2,.inr ⟨b,off,rfl,h1,fun j hj =>?_⟩⟩
 rw[hb.cell (by show b<N;omega)]
 exact h2 j hj
theorem NumsLt.nums{w:World}(h:NumsLt N k w v zs)(hN:N≤w.heap.size):IsNums k w v zs:=by
 obtain⟨a,c,rfl,hc1,hc2,h|⟨b,off,rfl,h1,h2⟩⟩:=h
 · exact⟨a,c,rfl,.inl h⟩
 exact⟨_,c,rfl,.inr ⟨b,off,rfl,by omega,h2⟩⟩
inductive Dec where
 | ok (n:Nat) (k:Nat)
 | err (e:Int)
def dec:Nat→Nat→List Int→Dec
 | _,_,[]=>.err 21
 | acc,i,b :: r=>if (i=9∧1<b)∨(0<i∧b=0) then .err 20 else
     if b<128 then .ok (acc+(b % 128).toNat*2 ^ (7*i)) (i+1) else dec (acc+(b % 128).toNat*2 ^ (7*i)) (i+1) r
theorem kX(b:Int)(h0:0≤b)(h1:b≤255):bits .andNot .u8 b 128=b % 128:=by
 have h:∀ z:Fin 256,bits .andNot .u8 ((z.val:Nat):Int) 128=((z.val:Nat):Int) % 128:=by decide +kernel
 have:=h ⟨b.toNat,by omega⟩
 simp only at this
 rw[show((b.toNat:Nat):Int)=b by omega] at this
 exact this
theorem kx(acc k:Nat)(x:Int)(hacc:acc<2 ^ (7*k))(hk:k≤9)(x0:0≤x)(hx:x≤255)(h9:k=9→x≤1) :
   bits .or .u64 (acc:Int) (IntKind.u64.wrap (x % 128*2 ^ (7*k)))=((acc+(x % 128).toNat*2 ^ (7*k):Nat):Int):=by
 obtain⟨y,hy⟩:∃ y:Nat,x % 128=y:=⟨(x % 128).toNat,by omega⟩
 have hy1:y<128:=by omega
 have hy9:k=9→y≤1:=fun h=>by have:=h9 h;omega
 rw[hy]
 have hb:y*2 ^ (7*k)<2 ^ 64:=by
   by_cases e:k=9
   · subst e
     have:=hy9 rfl
     have:y*2 ^ (7*9)≤1*2 ^ (7*9):=Nat.mul_le_mul_right _ this
     exact Nat.lt_of_le_of_lt this (by decide)
   have h1:2 ^ (7*k)≤2 ^ 56:=Nat.pow_le_pow_right (by decide) (by omega)
   have h2:y*2 ^ (7*k)≤127*2 ^ 56:=Nat.mul_le_mul (by omega) h1
   exact Nat.lt_of_le_of_lt h2 (by decide)
 have ha:acc<2 ^ 64:=Nat.lt_of_lt_of_le hacc (Nat.pow_le_pow_right (by decide) (by omega))
 have hcast:((y:Int)*2 ^ (7*k))=((y*2 ^ (7*k):Nat):Int):=by simp
 have hw:∀ n:Int,0≤n→n<2 ^ 64→IntKind.u64.wrap n=n:=fun n h0 h1=>by rw[IntKind.wrap_u64];omega
 rw[hcast,hw _ (by omega) (by have:((y*2 ^ (7*k):Nat):Int)<((2 ^ 64:Nat):Int):=Int.ofNat_lt.2 hb;simpa using this)]
 have h:=(bits_nat .u64 64 (by decide) hw acc (y*2 ^ (7*k)) ha hb).2
 rw[h]
 have h2:2 ^ (7*k)*y+acc=2 ^ (7*k)*y ||| acc:=Nat.two_pow_add_eq_or_of_lt hacc y
 rw[Nat.or_comm,Nat.mul_comm y,← h2,Int.toNat_natCast,Nat.mul_comm,Nat.add_comm]
theorem jv(acc k:Nat)(x:Int)(hacc:acc<2 ^ (7*k)):acc+(x % 128).toNat*2 ^ (7*k)<2 ^ (7*(k+1)):=by
 have h1:(x % 128).toNat≤127:=by omega
 have h2:(x % 128).toNat*2 ^ (7*k)≤127*2 ^ (7*k):=Nat.mul_le_mul_right _ h1
 rw[show 7*(k+1)=7*k+7 by omega,Nat.pow_add]
 omega
def IsReader(w:World)(B:Nat)(v:Value)(bs:List Int)(e:Int):Prop:=
 w.cell? ⟨B,0,none⟩=some v∧w.cell? ⟨B,1,none⟩=some (.int .i64 e)∧w.frozen? ⟨B,0,none⟩=false∧w.frozen? ⟨B,1,none⟩=false∧NumsLt B .u8 w v bs∧∀ x∈bs,0≤x∧x≤255
theorem nL{w:World}{B b off c k c':Nat}{bs:List Int}(h0:w.cell? ⟨B,0,none⟩=some v)(h1:w.cell? ⟨B,1,none⟩=some (.int .i64 e))(h2:w.frozen? ⟨B,0,none⟩=false)(h3:w.frozen? ⟨B,1,none⟩=false)(hblk:b<B)(hcell:∀ j,j<bs.length→w.cell? ⟨b,off+j,none⟩=some (.int .u8 (bs.getD j 0)))(hbs:∀ x∈bs,0≤x∧x≤255)(hk:k≤bs.length)(hc1:bs.length - k≤c')(hc2:c'≤9223372036854775807)(ha:bs.length - k=0∨a'=some ⟨b,off+k,none⟩) :
   IsReader (w.setCell ⟨B,0,none⟩ (.slice a' (bs.length - k) c')) B (.slice a' (bs.length - k) c') (bs.drop k) e:=by
 refine⟨World.cell?_setCell_same _ _ _ h0,?_,by rw[World.frozen?_setCell];exact h2,by rw[World.frozen?_setCell];exact h3,?_,fun x hx=>hbs x (List.mem_of_mem_drop hx)⟩
 · rw[World.cell?_setCell_other _ _ _ _ (by simp)];exact h1
 have hl:(bs.drop k).length=bs.length - k:=by simp
 refine NumsLt.below (w:=w) ⟨a',c',by rw[hl],by omega,hc2,?_⟩ ((Below.refl B w).setCell (p:=⟨B,0,none⟩) (Nat.le_refl _) _)
 rcases ha with ha|ha
 · left;omega
 right
 refine⟨b,off+k,ha,hblk,fun j hj =>?_⟩
 have:=hcell (k+j) (by omega)
 rw[show off+k+j=off+(k+j) by omega,this]
 simp [List.getD]
def yY(w:World)(B:Nat)(bs:List Int)(e:Int):Dec→Ending→World→Prop
 | .ok n k,en,w'=>en=.returned (.tuple #[.int .u64 n,.int .i64 0])∧∃ v',w'=w.setCell ⟨B,0,none⟩ v'∧IsReader w' B v' (bs.drop k) e
 | .err er,en,w'=>en=.returned (.tuple #[.int .u64 0,.int .i64 er])∧w'=w
end
end Go.Proofs.YtkehgingagggaaaGreat.K
