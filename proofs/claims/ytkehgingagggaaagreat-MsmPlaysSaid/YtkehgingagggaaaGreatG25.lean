/- General laws of walks. -/
import Derived.Test.YtkehgingagggaaaGreatG20
import Derived.Test.YtkehgingagggaaaGreatG21
import Derived.Test.YtkehgingagggaaaGreatG14
import Derived.Test.YtkehgingagggaaaGreatG24
namespace Go.Proofs.YtkehgingagggaaaGreat.K
open Go.ChangeShapes Go.WideShapes Go.ChangeAt Go.RowKit
set_option linter.unusedVariables false
set_option linter.unusedSimpArgs false
set_option maxRecDepth 100000
set_option maxHeartbeats 4000000
set_option autoImplicit true
set_option relaxedAutoImplicit true
section
theorem qZ:iO Tryz.prog 38 [.int .i64 0,.int .i64 0,.int .i64 0,.int .i64 0,.int .i64 0,.slice none 0 0,.int .i64 0,.int .i64 0,.int .i64 0,.slice none 0 0]=true:=by kernel_rfl
def ItG(it:List (Int×List Int)):Prop:=it.length≤8∧(∀ e∈it,(0≤e.1∧e.1≤255)∧e.2.length≤32)∧ItsB it
theorem lI:ItG []:=⟨by decide,(fun _ h=>by cases h),(fun _ h=>by cases h)⟩
theorem mj{bl:Int}{z:Nat}{it:List (Int×List Int)}(h:l9 (max bl 1) z it it.length)(h8:it.length≤8)(hb:ItsB it)(hbl:bl≤256)(hz:z≤32):ItG it:=⟨h8,fun e he=>by
 obtain⟨j,hj,rfl⟩:=List.getElem_of_mem he
 have h9:=h j hj
 rw[List.getD,List.getElem?_eq_getElem hj] at h9
 simp only [Option.getD_some] at h9
 omega,hb⟩
theorem oo{kd vo at0 ix:Int}(hvo:0≤vo∧vo≤7)(hkd:2≤kd∧kd≤8)(hat:0≤at0∧at0≤1099511627776)(hix:0≤ix∧ix≤1099511627776)(h:ItG it):CmdR ⟨kd,vo,0,0,0,[],0,at0,ix,it⟩:=
 ⟨by dsimp only;omega,hvo,by dsimp only;omega,by simp,(fun z hz=>by cases hz),h.1,h.2.1⟩
theorem uW{xa:Int}{n:Nat}(h:0≤xa∧xa≤255):0≤xa.tmod ((n:Int)+2)∧xa.tmod ((n:Int)+2)≤255:=by
 rw[Int.tmod_eq_emod_of_nonneg h.1]
 have h1:=Int.emod_nonneg xa (show((n:Int)+2)≠0 by omega)
 have h2:xa % ((n:Int)+2)≤xa:=by
   rcases Int.lt_or_le xa ((n:Int)+2) with h3|h3
   · rw[Int.emod_eq_of_lt h.1 h3];exact Int.le_refl _
   have:=Int.emod_lt_of_pos xa (show(0:Int)<(n:Int)+2 by omega);omega
 omega
theorem xm(vo bl)(z:Nat)(pe to ne fl:Int)(hi)(pp pn pw:Option Addr)(np cp nn9 cn9 nw cw:Nat)(wh xa xb xc)(w0:World)(hvo:0≤vo∧vo≤7)(hbl:bl≤256)(hz:z≤32)(hnw:nw≤1000000)(hne:0≤ne∧ne≤1099511627776)(hw9:0≤wh∧wh≤255)(ha9:0≤xa∧xa≤255)(hb9:0≤xb∧xb≤255)(hc9:0≤xc∧xc≤255) :
   Calls Tryz.prog 41 #[.agg #[.int .i64 vo,.int .i64 bl,.int .i64 (z:Int),.int .i64 pe,.slice pp np cp,.int .i64 to,.int .i64 ne,.bool hi,.int .i64 fl,.slice pn nn9 cn9,.slice pw nw cw],.bool true,.int .u8 wh,.int .u8 xa,.int .u8 xb,.int .u8 xc] w0 fun e w' => ∃ (kd at0 ix:Int) (it:List (Int×List Int)) (pi:Option Addr) (ci:Nat),e=.returned (.agg #[.int .i64 kd,.int .i64 vo,.int .i64 0,.int .i64 0,.int .i64 0,.slice none 0 0,.int .i64 0,.int .i64 at0,.int .i64 ix,.slice pi it.length ci])∧(2≤kd∧kd≤8)∧CmdR ⟨kd,vo,0,0,0,[],0,at0,ix,it⟩∧ItsB it∧Rd (New w0) w' (.slice pi it.length ci) (.l 2 (it.map itD))∧Below w0.heap.size w0 w':=by
 refine za Tryz.func41 rfl Tryz.ntmps41 fun Y U =>?_
 have m0:=MemOk.start (fun _=>False) w0
 have htm:=uW (n:=nw) ha9
 refine zsr fun K0 hK0=>plz<|iu U m0 20 (cs:=[_,_,_,_,_,_,_,_,_,_,_]) rfl rfl rfl fun g1 Y w2 U m2 _ _=>plz<|hZ U m2 21 i8 rfl fun g3 Y w4 U m4 _ _=>znl<|hK0 _ _<|wsk fun K1 hK1=>hC U (.move rfl<|.not rfl .nil) fun Y U=>wcf U<|zss<|hK1 _ _<|zsr fun K2 hK2=>g9 U (.fa 0 rfl U51<|.lb m4 20 U3 rfl rfl rfl<|.build rfl i8 qZ rfl (by dsimp only [iY,List.set] <;> rfl) .nil) fun Y U=>plz<|hZ U m4 22 i8 rfl fun cD Y cE U bI _ _=>plz (stw U bI 22 ip fun cF aa _ =>?_)
 refine znl<|hK2 _ _<|wsk fun K3 hK3 =>?_
 have hC3:∀ (a:Act) (w:World),(∃ (kd at0 ix:Int) (it:List (Int×List Int)) (pi:Option Addr) (ci:Nat) (B6 a5 a6:Nat),(2≤kd∧kd≤8)∧(0≤at0∧at0≤1099511627776)∧(0≤ix∧ix≤1099511627776)∧ItG it∧Has 131 [(2,.int .u8 wh),(3,.int .u8 xa),(4,.int .u8 xb),(5,.int .u8 xc),(6,.pointer (some ⟨B6,0,none⟩)),(12,.pointer (some ⟨a5,0,none⟩)),(14,.pointer (some ⟨a6,0,none⟩))] a∧MemOk (cn w0) w0 [(6,.box B6 51 [.int .i64 vo,.int .i64 bl,.int .i64 (z:Int),.int .i64 pe,.slice pp np cp,.int .i64 to,.int .i64 ne,.bool hi,.int .i64 fl,.slice pn nn9 cn9,.slice pw nw cw]),(12,.box a5 38 [.int .i64 0,.int .i64 0,.int .i64 0,.int .i64 0,.int .i64 0,.slice none 0 0,.int .i64 0,.int .i64 0,.int .i64 0,.slice none 0 0]),(14,.box a6 38 [.int .i64 kd,.int .i64 vo,.int .i64 0,.int .i64 0,.int .i64 0,.slice none 0 0,.int .i64 0,.int .i64 at0,.int .i64 ix,.slice pi it.length ci]),(9,.dat (.slice pi it.length ci) (.l 2 (it.map itD)))] w)→K3 a w:=by
   clear U aa
   rintro Y cG ⟨kd,at0,ix,it,pi,ci,B6,a5,a6,hkd,hat9,hix9,hIG,U,aH⟩
   refine hK3 _ _<|wsk fun K4 hK4=>zsr fun K5 hK5=>g9 U (.fa 7 rfl U51<|.lb aH 6 U4 rfl rfl rfl<|.move rfl .nil) fun Y U=>bc U 111 ?_ ?_
   ·
    intro ap U;try simp only [QQ,Qax] at ap
    refine gz hK5 U (.moveZ rfl<|.remZ rfl rfl (by decide) rfl<|.lssZ rfl rfl<|.pickT rfl rfl<|.nil) fun Y U=>bc U 115 ?_ ?_
    ·
     intro aq U;try simp only [QQ,Qax] at aq
     refine wct U ?_
     replace U:=U.oz [3,4,5,6,12,14]
     have a7:=aH.oz [6,9,12,14]
     refine region_p 15 (B:=[(6,_)]) (a7.to i1l) a7 (by kernel_rfl) (fun cH aI bE =>?_);clear a7
     refine goR aI [0,1,2,3,4,5,6,7,8,9,10] [1,3,5,7] 11 0 2047 U (bE.to i1l) (.fa 0 rfl U51<|.lb hh 6 U3 rfl rfl rfl<|.fa 6 rfl U51<|.lb hh 6 U3 rfl rfl rfl<|.fa 1 rfl U51<|.lb hh 6 U3 rfl rfl rfl<|.fa 2 rfl U51<|.lb hh 6 U3 rfl rfl rfl<|.move rfl<|.move rfl<|.move rfl .nil) fun Y U=>so 11 ?_
     refine iv U bE 100 (k:=.u8) rfl rfl U22 jU rfl rfl rfl rfl fun cI Y cJ U bF=>⟨bF.to i1l,?_⟩
     have bG:=bF.freezeN 100 rfl
     refine so 12 ?_
     refine ecl U Tryz.func90 rfl (jW bl z [xa,xb,xc] _ _ _ ((bG.rd (i:=100) rfl).any) (by simp) (b3 ha9 hb9 hc9) (by omega)) ?_
     rintro e cK ⟨it,cL,cM,rfl,hit8,hpre9,hitb,hit1,a8,a9⟩
     have ba:=bG.callF 101 rfl a9 a8
     have hIG:ItG it:=mj hpre9 hit8 hitb (by omega) (by omega)
     refine⟨_,rfl,?_⟩;intro Y U
     refine⟨ba.to i1l,?_⟩
     refine goA aI [13] 1 8191 16383 U (ba.to i1l) (.build rfl i8 qZ rfl (by dsimp only [iY,List.set] <;> rfl) .nil) fun Y U=>so 14 ?_
     refine stw U ba 14 ip fun cN bb _ =>?_
     refine⟨bb.to i1l,?_⟩
     refine wad<|hK4 _ _ ?_
     replace U:=U.oz [12,14]
     refine zsr fun K6 hK6=>g9 U (.loadBR bb (i:=14) rfl rfl U38 rfl ip (by simp) (by dsimp only [List.drop,List.take] <;> rfl) .nil) fun Y U=>plz (stw U bb 12 ip fun cO bd _ =>?_)
     refine znl<|hK6 _ _<|rtd (kG (fn:=Tryz.f41) U bd (i:=12) rfl rfl rfl U38 rfl ip ?_)
     exact⟨_,_,_,_,_,_,rfl,(by first|exact hkd|decide),oo hvo (by first|exact hkd|decide) (by first|exact hat9|decide) (by first|exact hix9|omega) hIG,hIG.2.2,bd.outF (i:=101) rfl,bd.below⟩
    intro aq U;try simp only [QQ,Qax] at aq
    refine wcf U<|zss (hK4 _ _ ?_)
    replace U:=U.oz [12,14]
    refine zsr fun K7 hK7=>g9 U (.loadBR aH (i:=14) rfl rfl U38 rfl ip (by simp) (by dsimp only [List.drop,List.take] <;> rfl) .nil) fun Y U=>plz (stw U aH 12 ip fun cP be _ =>?_)
    refine znl<|hK7 _ _<|rtd (kG (fn:=Tryz.f41) U be (i:=12) rfl rfl rfl U38 rfl ip ?_)
    exact⟨_,_,_,_,_,_,rfl,(by first|exact hkd|decide),oo hvo (by first|exact hkd|decide) (by first|exact hat9|decide) (by first|exact hix9|omega) hIG,hIG.2.2,be.outF (i:=9) rfl,be.below⟩
   intro ap U;try simp only [QQ,Qax] at ap
   refine gz hK5 U (.sk<|.sk<|.sk<|.pickF rfl rfl<|.nil) fun Y U=>wcf U<|zss (hK4 _ _ ?_)
   replace U:=U.oz [12,14]
   refine zsr fun K8 hK8=>g9 U (.loadBR aH (i:=14) rfl rfl U38 rfl ip (by simp) (by dsimp only [List.drop,List.take] <;> rfl) .nil) fun Y U=>plz (stw U aH 12 ip fun cQ bf _ =>?_)
   refine znl<|hK8 _ _<|rtd (kG (fn:=Tryz.f41) U bf (i:=12) rfl rfl rfl U38 rfl ip ?_)
   exact⟨_,_,_,_,_,_,rfl,(by first|exact hkd|decide),oo hvo (by first|exact hkd|decide) (by first|exact hat9|decide) (by first|exact hix9|omega) hIG,hIG.2.2,bf.outF (i:=9) rfl,bf.below⟩
 replace U:=U.oz [2,3,4,5,6,12,14]
 refine hC U (.move rfl<|.rem rfl rfl (by decide) rfl .nil) fun Y U=>wp_block<|wsk fun K9 hK9=>hC U (.eql rfl rfl<|.assign rfl .nil) fun Y U=>bc U 39 ?_ ?_
 ·
  intro ar U;try simp only [QQ,Qax] at ar
  refine wct U<|zss<|hK9 _ _<|wct U<|wp_region_lit<|g9 U (.fa 1 rfl U51<|.lb aa 20 U3 rfl rfl rfl<|.fa 2 rfl U51<|.lb aa 20 U3 rfl rfl rfl<|.move rfl<|.move rfl<|.move rfl .nil) fun Y U=>plz (iv U aa 23 (k:=.u8) rfl rfl U22 jU rfl rfl rfl rfl fun cR Y cS U bJ =>?_)
  have bH:=bJ.freezeN 23 rfl
  refine plz (ecl U Tryz.func90 rfl (jW bl z [xa,xb,xc] _ _ _ ((bH.rd (i:=23) rfl).any) (by simp) (b3 ha9 hb9 hc9) (by omega)) ?_)
  rintro e cT ⟨it,cU,cV,rfl,hit8,hpre9,hitb,hit1,bg,bh⟩
  have bK:=bH.callF 24 rfl bh bg
  have hIG:ItG it:=mj hpre9 hit8 hitb (by omega) (by omega)
  refine⟨_,rfl,?_⟩;intro Y U
  refine g9 U (.fieldAddr (off:=0) rfl U38 rfl (s:=0) (by kernel_rfl) rfl .nil) fun Y U=>plz (st1 U bK 22 iG fun cW bL _ =>?_)
  refine g9 U (.fieldAddr (off:=9) rfl U38 rfl (s:=0) (by kernel_rfl) rfl .nil) fun Y U=>plz (st1 U bL 22 sI fun cX bM _ =>?_)
  refine wpList_nil ?_
  show K3 _ _
  exact hC3 _ _ ⟨_,_,_,it,_,_,_,_,_,by decide,(by omega),(by omega),hIG,U.only [2,3,4,5,6,12,14],bM.ren [(6,20),(12,21),(14,22),(9,24)] (by decide)⟩
 intro ar U;try simp only [QQ,Qax] at ar
 refine wcf U<|hC U (.eql rfl rfl<|.assign rfl .nil) fun Y U=>bc U 39 ?_ ?_
 ·
  intro au U;try simp only [QQ,Qax] at au
  refine wct U<|zss<|hK9 _ _<|wct U<|wp_region_lit<|g9 U (.fa 1 rfl U51<|.lb aa 20 U3 rfl rfl rfl<|.fa 2 rfl U51<|.lb aa 20 U3 rfl rfl rfl<|.move rfl<|.move rfl<|.move rfl .nil) fun Y U=>plz (iv U aa 23 (k:=.u8) rfl rfl U22 jU rfl rfl rfl rfl fun bN Y bO U bi =>?_)
  have aJ:=bi.freezeN 23 rfl
  refine plz (ecl U Tryz.func90 rfl (jW bl z [xa,xb,xc] _ _ _ ((aJ.rd (i:=23) rfl).any) (by simp) (b3 ha9 hb9 hc9) (by omega)) ?_)
  rintro e bP ⟨it,bQ,bR,rfl,hit8,hpre9,hitb,hit1,aK,aL⟩
  have bj:=aJ.callF 24 rfl aL aK
  have hIG:ItG it:=mj hpre9 hit8 hitb (by omega) (by omega)
  refine⟨_,rfl,?_⟩;intro Y U
  refine g9 U (.fieldAddr (off:=0) rfl U38 rfl (s:=0) (by kernel_rfl) rfl .nil) fun Y U=>plz (st1 U bj 22 iG fun bS bk _ =>?_)
  refine g9 U (.fieldAddr (off:=9) rfl U38 rfl (s:=0) (by kernel_rfl) rfl .nil) fun Y U=>plz (st1 U bk 22 sI fun bT bm _ =>?_)
  refine wpList_nil ?_
  show K3 _ _
  exact hC3 _ _ ⟨_,_,_,it,_,_,_,_,_,by decide,(by omega),(by omega),hIG,U.only [2,3,4,5,6,12,14],bm.ren [(6,20),(12,21),(14,22),(9,24)] (by decide)⟩
 intro au U;try simp only [QQ,Qax] at au
 refine wcf U<|hC U (.eql rfl rfl<|.assign rfl .nil) fun Y U=>bc U 39 ?_ ?_
 ·
  intro ab U;try simp only [QQ,Qax] at ab
  refine wct U<|zss<|hK9 _ _<|wct U<|wp_region_lit<|g9 U (.fa 1 rfl U51<|.lb aa 20 U3 rfl rfl rfl<|.fa 2 rfl U51<|.lb aa 20 U3 rfl rfl rfl<|.move rfl<|.move rfl<|.move rfl .nil) fun Y U=>plz (iv U aa 23 (k:=.u8) rfl rfl U22 jU rfl rfl rfl rfl fun bU Y bV U bn =>?_)
  have aM:=bn.freezeN 23 rfl
  refine plz (ecl U Tryz.func90 rfl (jW bl z [xa,xb,xc] _ _ _ ((aM.rd (i:=23) rfl).any) (by simp) (b3 ha9 hb9 hc9) (by omega)) ?_)
  rintro e bW ⟨it,bX,bY,rfl,hit8,hpre9,hitb,hit1,aN,aO⟩
  have bo:=aM.callF 24 rfl aO aN
  have hIG:ItG it:=mj hpre9 hit8 hitb (by omega) (by omega)
  refine⟨_,rfl,?_⟩;intro Y U
  refine g9 U (.fieldAddr (off:=0) rfl U38 rfl (s:=0) (by kernel_rfl) rfl .nil) fun Y U=>plz (st1 U bo 22 iG fun bZ bp _ =>?_)
  refine g9 U (.fieldAddr (off:=9) rfl U38 rfl (s:=0) (by kernel_rfl) rfl .nil) fun Y U=>plz (st1 U bp 22 sI fun b0 bq _ =>?_)
  refine wpList_nil ?_
  show K3 _ _
  exact hC3 _ _ ⟨_,_,_,it,_,_,_,_,_,by decide,(by omega),(by omega),hIG,U.only [2,3,4,5,6,12,14],bq.ren [(6,20),(12,21),(14,22),(9,24)] (by decide)⟩
 intro ab U;try simp only [QQ,Qax] at ab
 refine wcf U<|wp_region_lit<|gz hK9 U (.eql rfl rfl<|.assign rfl<|.nil) fun Y U=>bc U 39 ?_ ?_
 ·
  intro ac U;try simp only [QQ,Qax] at ac
  refine wct U ?_
  replace U:=U.oz [2,3,4,5,6,12,14,37]
  refine wp_region_lit<|g9 U (.fa 1 rfl U51<|.lb aa 20 U3 rfl rfl rfl<|.fa 2 rfl U51<|.lb aa 20 U3 rfl rfl rfl<|.move rfl<|.move rfl<|.move rfl .nil) fun Y U=>plz (iv U aa 23 (k:=.u8) rfl rfl U22 jU rfl rfl rfl rfl fun b1 Y b4 U br =>?_)
  have aP:=br.freezeN 23 rfl
  refine plz (ecl U Tryz.func90 rfl (jW bl z [xa,xb,xc] _ _ _ ((aP.rd (i:=23) rfl).any) (by simp) (b3 ha9 hb9 hc9) (by omega)) ?_)
  rintro e b5 ⟨it,b6,b7,rfl,hit8,hpre9,hitb,hit1,aQ,aR⟩
  have bs:=aP.callF 24 rfl aR aQ
  have hIG:ItG it:=mj hpre9 hit8 hitb (by omega) (by omega)
  refine⟨_,rfl,?_⟩;intro Y U
  refine g9 U (.fieldAddr (off:=0) rfl U38 rfl (s:=0) (by kernel_rfl) rfl .nil) fun Y U=>plz (st1 U bs 22 iG fun b8 bt _ =>?_)
  refine g9 U (.fieldAddr (off:=9) rfl U38 rfl (s:=0) (by kernel_rfl) rfl .nil) fun Y U=>plz (st1 U bt 22 sI fun b9 bu _ =>?_)
  refine wpList_nil ?_
  show K3 _ _
  exact hC3 _ _ ⟨_,_,_,it,_,_,_,_,_,by decide,(by omega),(by omega),hIG,U.only [2,3,4,5,6,12,14],bu.ren [(6,20),(12,21),(14,22),(9,24)] (by decide)⟩
 intro ac U;try simp only [QQ,Qax] at ac
 refine wcf U ?_
 replace U:=U.oz [2,3,4,5,6,12,14,37]
 refine hC U (.eql rfl rfl<|.assign rfl .nil) fun Y U=>bc U 55 ?_ ?_
 ·
  intro ad U;try simp only [QQ,Qax] at ad
  refine wct U ?_
  have av:=aa.oz [20,21,22]
  refine region_p 10 (B:=[(20,_)]) (av.to i1l) av (by kernel_rfl) (fun ca ae aS =>?_);clear av
  refine goR ae [0,1,2,6] [2] 4 0 71 U (aS.to i1l) (.move rfl<|.conv rfl U5 U2 (r:=xa) (IntWalk.i64_in _ (by omega))<|.loadBR hh (i:=20) rfl rfl U51 rfl hH (by simp) (by dsimp only [List.drop,List.take] <;> rfl)<|.fa 0 rfl U38 .nil) fun Y U=>so 3 ?_
  refine ecb U Tryz.func39 rfl aS (iH _ _ _ _ _ _ _ _ _ _ _ _ _ _ _ _ _ _) fun Y cb U aw=>⟨aw.to i1l,?_⟩
  refine goA ae [4,5] 2 79 127 U (aw.to i1l) (.add rfl rfl (r:=(nw:Int)+2) (IntWalk.i64_in _ (by omega))<|.rem rfl rfl (by omega) rfl .nil) fun Y U=>so 7 ?_
  refine st1 U aw 22 iG fun cc ax _ =>?_
  refine⟨ax.to i1l,?_⟩
  refine goA ae [8] 1 255 511 U (ax.to i1l) (.fa 7 rfl U38 .nil) fun Y U=>so 9 ?_
  refine st1 U ax 22 iP fun cd aT _ =>?_
  refine⟨aT.to i1l,?_⟩
  refine wad ?_
  have bv:=aT.dat 23 rfl (Rd.l0 none 0 2)
  show K3 _ _
  exact hC3 _ _ ⟨_,_,_,[],_,_,_,_,_,by decide,(by omega),(by omega),lI,U.only [2,3,4,5,6,12,14],bv.ren [(6,20),(12,21),(14,22),(9,23)] (by decide)⟩
 intro ad U;try simp only [QQ,Qax] at ad
 refine wcf U<|hC U (.eql rfl rfl<|.assign rfl .nil) fun Y U=>bc U 65 ?_ ?_
 ·
  intro ag U;try simp only [QQ,Qax] at ag
  refine wct U ?_
  have ay:=aa.oz [20,21,22]
  refine region_p 10 (B:=[(20,_)]) (ay.to i1l) ay (by kernel_rfl) (fun ce ah aU =>?_);clear ay
  refine goR ah [0,1,2,6] [2] 4 0 71 U (aU.to i1l) (.move rfl<|.conv rfl U5 U2 (r:=xa) (IntWalk.i64_in _ (by omega))<|.loadBR hh (i:=20) rfl rfl U51 rfl hH (by simp) (by dsimp only [List.drop,List.take] <;> rfl)<|.fa 0 rfl U38 .nil) fun Y U=>so 3 ?_
  refine ecb U Tryz.func39 rfl aU (iH _ _ _ _ _ _ _ _ _ _ _ _ _ _ _ _ _ _) fun Y cf U az=>⟨az.to i1l,?_⟩
  refine goA ah [4,5] 2 79 127 U (az.to i1l) (.add rfl rfl (r:=(nw:Int)+2) (IntWalk.i64_in _ (by omega))<|.rem rfl rfl (by omega) rfl .nil) fun Y U=>so 7 ?_
  refine st1 U az 22 iG fun cg aA _ =>?_
  refine⟨aA.to i1l,?_⟩
  refine goA ah [8] 1 255 511 U (aA.to i1l) (.fa 7 rfl U38 .nil) fun Y U=>so 9 ?_
  refine st1 U aA 22 iP fun ch aV _ =>?_
  refine⟨aV.to i1l,?_⟩
  refine wad ?_
  have bw:=aV.dat 23 rfl (Rd.l0 none 0 2)
  show K3 _ _
  exact hC3 _ _ ⟨_,_,_,[],_,_,_,_,_,by decide,(by omega),(by omega),lI,U.only [2,3,4,5,6,12,14],bw.ren [(6,20),(12,21),(14,22),(9,23)] (by decide)⟩
 intro ag U;try simp only [QQ,Qax] at ag
 refine wcf U<|hC U (.eql rfl rfl<|.assign rfl .nil) fun Y U=>bc U 75 ?_ ?_
 ·
  intro ai U;try simp only [QQ,Qax] at ai
  refine wct U ?_
  replace U:=U.oz [2,3,4,5,6,12,14,37]
  have aB:=aa.oz [20,21,22]
  refine region_p 10 (B:=[(20,_)]) (aB.to i1l) aB (by kernel_rfl) (fun cj aj aW =>?_);clear aB
  refine goR aj [0,1,2,6] [2] 4 0 71 U (aW.to i1l) (.move rfl<|.conv rfl U5 U2 (r:=xa) (IntWalk.i64_in _ (by omega))<|.loadBR hh (i:=20) rfl rfl U51 rfl hH (by simp) (by dsimp only [List.drop,List.take] <;> rfl)<|.fa 0 rfl U38 .nil) fun Y U=>so 3 ?_
  refine ecb U Tryz.func39 rfl aW (iH _ _ _ _ _ _ _ _ _ _ _ _ _ _ _ _ _ _) fun Y ck U aC=>⟨aC.to i1l,?_⟩
  refine goA aj [4,5] 2 79 127 U (aC.to i1l) (.add rfl rfl (r:=(nw:Int)+2) (IntWalk.i64_in _ (by omega))<|.rem rfl rfl (by omega) rfl .nil) fun Y U=>so 7 ?_
  refine st1 U aC 22 iG fun cl aD _ =>?_
  refine⟨aD.to i1l,?_⟩
  refine goA aj [8] 1 255 511 U (aD.to i1l) (.fa 7 rfl U38 .nil) fun Y U=>so 9 ?_
  refine st1 U aD 22 iP fun cm aX _ =>?_
  refine⟨aX.to i1l,?_⟩
  refine wad ?_
  have bx:=aX.dat 23 rfl (Rd.l0 none 0 2)
  show K3 _ _
  exact hC3 _ _ ⟨_,_,_,[],_,_,_,_,_,by decide,(by omega),(by omega),lI,U.only [2,3,4,5,6,12,14],bx.ren [(6,20),(12,21),(14,22),(9,23)] (by decide)⟩
 intro ai U;try simp only [QQ,Qax] at ai
 refine wcf U ?_
 replace U:=U.oz [2,3,4,5,6,12,14,37]
 refine hC U (.eql rfl rfl<|.assign rfl .nil) fun Y U=>bc U 85 ?_ ?_
 ·
  intro ak U;try simp only [QQ,Qax] at ak
  refine wct U<|wp_region_lit<|g9 U (.fieldAddr (off:=0) rfl U38 rfl (s:=0) (by kernel_rfl) rfl .nil) fun Y U=>plz (st1 U aa 22 iG fun co bz _ =>?_)
  refine wpList_nil ?_
  have bA:=bz.dat 23 rfl (Rd.l0 none 0 2)
  show K3 _ _
  exact hC3 _ _ ⟨_,_,_,[],_,_,_,_,_,by decide,(by omega),(by omega),lI,U.only [2,3,4,5,6,12,14],bA.ren [(6,20),(12,21),(14,22),(9,23)] (by decide)⟩
 intro ak U;try simp only [QQ,Qax] at ak
 refine wcf U<|hC U (.eql rfl rfl<|.assign rfl .nil) fun Y U=>bc U 88 ?_ ?_
 ·
  intro al U;try simp only [QQ,Qax] at al
  refine wct U ?_
  have aE:=aa.oz [20,21,22]
  refine region_p 22 (B:=[(20,_)]) (aE.to i1l) aE (by kernel_rfl) (fun cq ao aY =>?_);clear aE
  refine goR ao [0,1,2,3,4,5,6,7,8,9,10,11,12,13,16] [1,9,11] 15 0 81919 U (aY.to i1l) (.fa 6 rfl U51<|.lb hh 20 U3 rfl rfl rfl<|.move rfl<|.rem rfl rfl (by decide) (Int.tmod_eq_emod_of_nonneg (by omega))<|.conv rfl U5 U3 (r:=xc % 5) (IntWalk.i64_in _ (by omega))<|.quo rfl rfl (by decide) (r:=xc % 5 / 4) (by rw[Int.tdiv_eq_ediv_of_nonneg (by omega)];exact IntWalk.i64_in _ (by omega))<|.sub rfl rfl (r:=ne - xc % 5 / 4) (IntWalk.i64_in _ (by omega))<|.p (fun _ _ h_=>sr h_ rfl rfl rfl)<|.fa 1 rfl U51<|.lb hh 20 U3 rfl rfl rfl<|.fa 2 rfl U51<|.lb hh 20 U3 rfl rfl rfl<|.move rfl<|.move rfl<|.fa 0 rfl U38 .nil) fun Y U=>so 14 ?_
  refine iv U aY 23 (k:=.u8) rfl rfl U22 jU rfl rfl rfl rfl fun cr Y ct U aZ=>⟨aZ.to i1l,?_⟩
  have a0:=aZ.freezeN 23 rfl
  refine so 15 ?_
  refine ecl U Tryz.func90 rfl (jW bl z [xa,xb] _ _ _ ((a0.rd (i:=23) rfl).any) (by simp) (b2 ha9 hb9) (by omega)) ?_
  rintro e cu ⟨it,cv,cy,rfl,hit8,hpre9,hitb,hit1,a1,a2⟩
  have a3:=a0.callF 24 rfl a2 a1
  have hIG:ItG it:=mj hpre9 hit8 hitb (by omega) (by omega)
  refine⟨_,rfl,?_⟩;intro Y U
  refine⟨a3.to i1l,?_⟩
  refine so 17 ?_
  refine st1 U a3 22 iG fun cz aF _ =>?_
  refine⟨aF.to i1l,?_⟩
  refine goA ao [18] 1 262143 524287 U (aF.to i1l) (.fa 8 rfl U38 .nil) fun Y U=>so 19 ?_
  refine st1 U aF 22 iG fun cA aG _ =>?_
  refine⟨aG.to i1l,?_⟩
  refine goA ao [20] 1 1048575 2097151 U (aG.to i1l) (.fa 9 rfl U38 .nil) fun Y U=>so 21 ?_
  refine st1 U aG 22 sI fun cB a4 _ =>?_
  refine⟨a4.to i1l,?_⟩
  refine wad ?_
  show K3 _ _
  exact hC3 _ _ ⟨_,_,_,it,_,_,_,_,_,by decide,(by omega),(by omega),hIG,U.only [2,3,4,5,6,12,14],a4.ren [(6,20),(12,21),(14,22),(9,24)] (by decide)⟩
 intro al U;try simp only [QQ,Qax] at al
 refine wcf U<|wp_region_lit<|g9 U (.fieldAddr (off:=0) rfl U38 rfl (s:=0) (by kernel_rfl) rfl .nil) fun Y U=>plz (st1 U aa 22 iG fun cC bB _ =>?_)
 refine wpList_nil ?_
 have bC:=bB.dat 23 rfl (Rd.l0 none 0 2)
 show K3 _ _
 exact hC3 _ _ ⟨_,_,_,[],_,_,_,_,_,by decide,(by omega),(by omega),lI,U.only [2,3,4,5,6,12,14],bC.ren [(6,20),(12,21),(14,22),(9,23)] (by decide)⟩
end
section
theorem uY:iO Tryz.prog 32 [.slice none 0 0]=true:=by kernel_rfl
def CsR(cs:List Cm):Prop:=∀ c∈cs,CmdR c∧ItsB c.its
theorem pa{c:Cm}(h:CsR cs)(hc:CmdR c)(hb:ItsB c.its):CsR (cs++[c]):=fun x hx=>by
 rcases List.mem_append.1 hx with hx|hx
 · exact h x hx
 simp at hx;subst hx;exact⟨hc,hb⟩
open Classical in
theorem pc{c:Cm}(h:CmdR c):rrL (cs++[c])=(kl (rrL cs) c).1:=by
 rw[rrL,List.foldl_append]
 show(if CmdR c then _ else _)=_
 rw[if_pos h];rfl
theorem pd{vx bx sx to bl sz pe:Int}{pl:List Int}(hv:0≤vx∧vx≤255)(hb:0≤bx∧bx≤255)(hs:0≤sx∧sx≤255)(h1:bl=bx.tmod 9+1)(h2:sz=sx.tmod 3+1)(h3:1≤pe)(h4:pe≤bl)(h5:nb bl pe pl)(h6:pl.length≤9)(h7:0≤to∧to≤1000):CmdR ⟨1,vx.tmod 3,bl,sz,pe,pl,to,0,0,[]⟩:=by
 rw[Int.tmod_eq_emod_of_nonneg hb.1] at h1
 rw[Int.tmod_eq_emod_of_nonneg hs.1] at h2
 rw[Int.tmod_eq_emod_of_nonneg hv.1]
 exact⟨by dsimp only;omega,by dsimp only;omega,by dsimp only;omega,by dsimp only;omega,(fun z hz=>by have:=h5.1 z hz;omega),by simp,(fun e he=>by cases he)⟩
theorem t1(vo bl sz pe to ne fl:Int)(hi)(pp pn pw:Option Addr)(np cp nn9 cn9 nw cw:Nat)(wh xa xb xc)(w0:World)(hvo:0≤vo∧vo≤255)(hw9:0≤wh∧wh≤255)(ha9:0≤xa∧xa≤255)(hb9:0≤xb∧xb≤255)(hc9:0≤xc∧xc≤255) :
   Calls Tryz.prog 41 #[.agg #[.int .i64 vo,.int .i64 bl,.int .i64 sz,.int .i64 pe,.slice pp np cp,.int .i64 to,.int .i64 ne,.bool hi,.int .i64 fl,.slice pn nn9 cn9,.slice pw nw cw],.bool false,.int .u8 wh,.int .u8 xa,.int .u8 xb,.int .u8 xc] w0 fun e w' => ∃ (vo2 bl2 sz2 pe2 to2:Int) (place:List Int) (pp:Option Addr) (cp:Nat),e=.returned (.agg #[.int .i64 1,.int .i64 vo2,.int .i64 bl2,.int .i64 sz2,.int .i64 pe2,.slice pp place.length cp,.int .i64 to2,.int .i64 0,.int .i64 0,.slice none 0 0])∧CmdR ⟨1,vo2,bl2,sz2,pe2,place,to2,0,0,[]⟩∧Rd (New w0) w' (.slice pp place.length cp) (.ns .i64 place)∧Below w0.heap.size w0 w':=by
 refine za Tryz.func41 rfl Tryz.ntmps41 fun Y U =>?_
 have m0:=MemOk.start (fun _=>False) w0
 obtain⟨tq,htq,htq0,htq3⟩:∃ x:Int,(xc / 4).tmod 3=x∧0≤x∧x≤2:=⟨_,rfl,by rw[Int.tmod_eq_emod_of_nonneg (by omega)];omega,by rw[Int.tmod_eq_emod_of_nonneg (by omega)];omega⟩
 refine zsr fun K0 hK0=>plz<|iu U m0 20 (cs:=[_,_,_,_,_,_,_,_,_,_,_]) rfl rfl rfl fun g1 Y w2 U m2 _ _=>plz<|hZ U m2 21 i8 rfl fun g3 Y w4 U m4 _ _=>znl<|hK0 _ _<|wsk fun K1 hK1=>hC U (.move rfl<|.not rfl .nil) fun Y U=>wct U<|hC U (.assign rfl .nil) fun Y U=>wsk fun K2 hK2=>hC U (.move rfl<|.rem rfl rfl (by decide) rfl<|.eql rfl rfl .nil) fun Y U=>bc U 19 ?_ ?_
 ·
  intro aa U;try simp only [QQ,Qax] at aa
  refine wct U ?_
  replace U:=U.oz [2,3,4,5,6,12,13]
  refine wp_region_lit<|gz hK2 U (.move rfl<|.quo rfl rfl (by decide) (r:=xc / 4) (by rw[Int.tdiv_eq_ediv_of_nonneg (by omega)];exact IntWalk.u8_in _ (by omega))<|.rem rfl rfl (by decide) (r:=tq) htq<|.conv rfl U5 U3 (r:=tq) (IntWalk.i64_in _ (by omega))<|.add rfl rfl (IntWalk.i64_in _ (by omega))<|.assign rfl<|.nil) fun Y U=>zsr fun K3 hK3=>g9 U (.fa 0 rfl U51<|.lb m4 20 U3 rfl rfl rfl<|.conv rfl U3 U5 (r:=vo) (IntWalk.u8_in _ (by omega))<|.move rfl<|.move rfl<|.move rfl<|.move rfl .nil) fun Y U=>plz (ecl U Tryz.func42 rfl (na vo xa xb xc _ _ hvo ha9 hb9 hc9) ?_)
  rintro e ak ⟨bl2,sz2,pe2,place,al,ao,rfl,hbl2,hsz2,hpe1,hpe2,hpo,hpl9,ab,ac⟩
  have ai:=m4.callF 22 rfl ac ab
  refine⟨_,rfl,?_⟩;intro Y U
  refine plz (stw U ai 21 ip fun ap ad _ =>?_)
  refine znl<|hK3 _ _<|rtd (kG (fn:=Tryz.f41) U ad (i:=21) rfl rfl rfl U38 rfl ip ?_)
  exact⟨_,_,_,_,_,place,_,_,rfl,pd hvo ha9 hb9 hbl2 hsz2 hpe1 hpe2 hpo hpl9 (by omega),ad.outF (i:=22) rfl,ad.below⟩
 intro aa U;try simp only [QQ,Qax] at aa
 refine wcf U<|zss (hK2 _ _ ?_)
 replace U:=U.oz [2,3,4,5,6,12,13]
 refine zsr fun K4 hK4=>g9 U (.fa 0 rfl U51<|.lb m4 20 U3 rfl rfl rfl<|.conv rfl U3 U5 (r:=vo) (IntWalk.u8_in _ (by omega))<|.move rfl<|.move rfl<|.move rfl<|.move rfl .nil) fun Y U=>plz (ecl U Tryz.func42 rfl (na vo xa xb xc _ _ hvo ha9 hb9 hc9) ?_)
 rintro e aq ⟨bl2,sz2,pe2,place,ar,au,rfl,hbl2,hsz2,hpe1,hpe2,hpo,hpl9,ae,ag⟩
 have aj:=m4.callF 22 rfl ag ae
 refine⟨_,rfl,?_⟩;intro Y U
 refine plz (stw U aj 21 ip fun av ah _ =>?_)
 refine znl<|hK4 _ _<|rtd (kG (fn:=Tryz.f41) U ah (i:=21) rfl rfl rfl U38 rfl ip ?_)
 exact⟨_,_,_,_,_,place,_,_,rfl,pd hvo ha9 hb9 hbl2 hsz2 hpe1 hpe2 hpo hpl9 (by omega),ah.outF (i:=22) rfl,ah.below⟩
theorem xn(n)(x:VolV)(there p1 p2 p3 d1 d2 d3 wh xa xb xc)(w0:World)(hx:there=true→VolS n x)(hx0:there=false→x=jM)(hn:n≤800000)(hw9:0≤wh∧wh≤255)(ha9:0≤xa∧xa≤255)(hb9:0≤xb∧xb≤255)(hc9:0≤xc∧xc≤255) :
   Calls Tryz.prog 41 #[.agg #[.int .i64 x.vo,.int .i64 x.bl,.int .i64 x.sz,.int .i64 x.pe,.slice p1 x.place.length d1,.int .i64 x.to,.int .i64 x.ne,.bool x.hi,.int .i64 x.fl,.slice p2 x.pins.length d2,.slice p3 (x.ws.map wrD).length d3],.bool there,.int .u8 wh,.int .u8 xa,.int .u8 xb,.int .u8 xc] w0 fun e w' => ∃ (kd vo2 bl2 sz2 pe2 to2 at0 ix:Int) (place:List Int) (it:List (Int×List Int)) (pp:Option Addr) (cp:Nat) (pi:Option Addr) (ci:Nat),e=.returned (.agg #[.int .i64 kd,.int .i64 vo2,.int .i64 bl2,.int .i64 sz2,.int .i64 pe2,.slice pp place.length cp,.int .i64 to2,.int .i64 at0,.int .i64 ix,.slice pi it.length ci])∧CmdR ⟨kd,vo2,bl2,sz2,pe2,place,to2,at0,ix,it⟩∧ItsB it∧Rd (New w0) w' (.slice pp place.length cp) (.ns .i64 place)∧Rd (New w0) w' (.slice pi it.length ci) (.l 2 (it.map itD))∧Below w0.heap.size w0 w':=by
 cases there
 · obtain rfl:=hx0 rfl
   refine(t1 0 0 0 0 0 0 0 false p1 p2 p3 0 d1 0 d2 0 d3 wh xa xb xc w0 (by omega) hw9 ha9 hb9 hc9).mono ?_
   rintro e w' ⟨vo2,bl2,sz2,pe2,to2,place,pp,cp,rfl,hR,hd,hb⟩
   exact⟨1,vo2,bl2,sz2,pe2,to2,0,0,place,[],pp,cp,none,0,rfl,hR,(fun e h=>by cases h),hd,Rd.l0 none 0 2,hb⟩
 obtain⟨h1,h2,h3,h4,-⟩:=hx rfl
 obtain⟨vo,bl,sz,pe,place0,to,ne,hi,fl,pins,ws⟩:=x
 simp only at *
 obtain⟨⟨a1,a2,a3,a4,a5,a6,a7,a8,a9,aa,ab⟩,b1,b2,b3⟩:=h1
 obtain⟨z,rfl⟩:∃ z:Nat,sz=(z:Int):=⟨sz.toNat,by omega⟩
 refine(xm vo bl z pe to ne fl hi p1 p2 p3 place0.length d1 pins.length d2 (ws.map wrD).length d3 wh xa xb xc w0 (by omega) (by omega) (by omega) (by rw[List.length_map];omega) (by omega) hw9 ha9 hb9 hc9).mono ?_
 rintro e w' ⟨kd,at0,ix,it,pi,ci,rfl,hkd,hR,hib,hd,hb⟩
 exact⟨kd,vo,0,0,0,0,at0,ix,[],it,none,0,pi,ci,rfl,hR,hib,Rd.nilN _ _ .i64 none,hd,hb⟩
theorem t3(n id)(x:VolV)(there p1 p2 p3 d1 d2 d3 wh xa xb xc)(w0:World)(hx:there=true→VolS n x)(hx0:there=false→x=jM)(hn:n≤800000)(hid:0≤id∧id≤2)(hw9:0≤wh∧wh≤255)(ha9:0≤xa∧xa≤255)(hb9:0≤xb∧xb≤255)(hc9:0≤xc∧xc≤255) :
   Calls Tryz.prog 41 #[.agg #[.int .i64 id,.int .i64 x.bl,.int .i64 x.sz,.int .i64 x.pe,.slice p1 x.place.length d1,.int .i64 x.to,.int .i64 x.ne,.bool x.hi,.int .i64 x.fl,.slice p2 x.pins.length d2,.slice p3 (x.ws.map wrD).length d3],.bool there,.int .u8 wh,.int .u8 xa,.int .u8 xb,.int .u8 xc] w0 fun e w' => ∃ (kd vo2 bl2 sz2 pe2 to2 at0 ix:Int) (place:List Int) (it:List (Int×List Int)) (pp:Option Addr) (cp:Nat) (pi:Option Addr) (ci:Nat),e=.returned (.agg #[.int .i64 kd,.int .i64 vo2,.int .i64 bl2,.int .i64 sz2,.int .i64 pe2,.slice pp place.length cp,.int .i64 to2,.int .i64 at0,.int .i64 ix,.slice pi it.length ci])∧CmdR ⟨kd,vo2,bl2,sz2,pe2,place,to2,at0,ix,it⟩∧ItsB it∧Rd (New w0) w' (.slice pp place.length cp) (.ns .i64 place)∧Rd (New w0) w' (.slice pi it.length ci) (.l 2 (it.map itD))∧Below w0.heap.size w0 w':=by
 cases there
 · obtain rfl:=hx0 rfl
   refine(t1 id 0 0 0 0 0 0 false p1 p2 p3 0 d1 0 d2 0 d3 wh xa xb xc w0 (by omega) hw9 ha9 hb9 hc9).mono ?_
   rintro e w' ⟨vo2,bl2,sz2,pe2,to2,place,pp,cp,rfl,hR,hd,hb⟩
   exact⟨1,vo2,bl2,sz2,pe2,to2,0,0,place,[],pp,cp,none,0,rfl,hR,(fun e h=>by cases h),hd,Rd.l0 none 0 2,hb⟩
 exact xn n { x with vo:=id } true p1 p2 p3 d1 d2 d3 wh xa xb xc w0 (fun _=>uV (hx rfl) hid) (fun h=>by cases h) hn hw9 ha9 hb9 hc9
theorem uZ(l:List Int)(pl cl)(w0:World)(h0:Rd (fun _=>True) w0 (.slice pl l.length cl) (.ns .u8 l))(hl:l.length≤100000)(hlb:∀ j,j<l.length→0≤l.getD j 0∧l.getD j 0≤255) :
   Calls Tryz.prog 10 #[.slice pl l.length cl] w0 fun e w' => ∃ (cs:List Cm) (p:Option Addr) (c:Nat),e=.returned (.slice p (cs.map cmD).length c)∧4*cs.length≤l.length∧CsR cs∧RowOk w0.heap.size (fun b=>Out (fun _=>False) w0 b∧(Value.slice p (cs.map cmD).length c).ownBlock≠some b) w' (.slice p (cs.map cmD).length c) 38 10 (cs.map cmD)∧Below w0.heap.size w0 w':=by
 refine i9 Tryz.func10 rfl Tryz.ntmps10 fun Y U =>?_
 have m0:=MemOk.start (fun _=>False) w0
 refine hC U (.assign rfl .nil) fun Y U=>zsr fun K0 hK0=>g9 U (.build rfl sK uY rfl (by dsimp only [iY,List.set] <;> rfl) .nil) fun Y U=>plz<|iu U m0 40 (cs:=[_]) rfl rfl rfl fun g4 Y w5 U m5 _ _=>gz hK0 U (.assign rfl .nil) fun Y U=>hC U (.assign rfl .nil) fun Y U=>wsk fun K1 hK1=>hC U (.assign rfl .nil) fun Y U=>wp_block<|wp_loop_ghost (fun g a w => ∃ (i k B c d:Nat) (L:List VolV) (cs:List Cm) (p q:Option Addr),i≤l.length∧4*k≤i∧cs.length=k∧CsR cs∧L=rrL cs∧(∀ y∈L,VolS k y)∧L.length≤k∧SrtV L∧g=l.length - i∧Has 71 [(0,.slice pl l.length cl),(3,.pointer (some ⟨B,0,none⟩)),(4,.slice q (cs.map cmD).length d),(5,.int .i64 i)] a∧MemOk (cn w0) w0 [(1,.box B 32 [.slice p (L.map ij).length c]),(2,.dat (.slice p (L.map ij).length c) (.l 11 (L.map ij))),(3,.row (.slice q (cs.map cmD).length d) 38 10 (cs.map cmD))] w) (l.length) ?_ ?_
 · have mz:=(m5.dat 2 rfl (Rd.l0 none 0 11)).nilR 33 38 10
   exact⟨0,0,_,_,_,[],[],_,_,Nat.zero_le _,Nat.zero_le _,rfl,(fun x h=>by cases h),rfl,(fun y hy=>by cases hy),Nat.zero_le _,List.Pairwise.nil,rfl,U.only [0,3,4,5],mz.ren [(1,40),(2,2),(3,33)] (by decide)⟩
 clear U m5
 rintro g Y w9 ⟨i,k,B,c,d,L,cs,p,q,hil,hki,hlen,hcs,hLc,hV,hLl,hS,hg,U,m9⟩
 refine wsk fun K2 hK2=>hC U (.move rfl<|.inc (i+3)<|.move rfl<|.len rfl U22<|.lss rfl rfl .nil) fun Y U=>bc U 18 ?_ ?_
 ·
  intro ag U;try simp only [QQ,Qax] at ag
  have hi9:i+3<l.length:=by omega
  have h9b:=hlb i (by omega)
  obtain⟨id,hid,hid0⟩:∃ x:Int,(l.getD i 0 / 16).tmod 3=x∧0≤x∧x≤2:=⟨_,rfl,by rw[Int.tmod_eq_emod_of_nonneg (by omega)];omega,by rw[Int.tmod_eq_emod_of_nonneg (by omega)];omega⟩
  refine wct U<|zss<|hK2 _ _<|wsk fun K3 hK3=>wp_block<|zsr fun K4 hK4=>g9 U (.move rfl<|.move rfl .nil) fun Y U =>?_
  obtain⟨aZ,a0,aF,a1,ai⟩:=h0.extN (i) (by omega)
  revert U
  cases aF
  intro U
  refine gz hK4 U (.c rfl (fun _ h_=>ii h_ rfl rfl U22 jw (i) rfl (by omega))<|.loadAt1 (ai m9 rfl) (q:=0) rfl rfl rfl U5 rfl<|.quo rfl rfl (by decide) (r:=l.getD i 0 / 16) (by rw[Int.tdiv_eq_ediv_of_nonneg (by omega)];exact IntWalk.u8_in _ (by omega))<|.conv rfl U5 U3 (r:=l.getD i 0 / 16) (IntWalk.i64_in _ (by omega))<|.rem rfl rfl (by decide) (r:=id) hid<|.assign rfl<|.nil) fun Y U =>?_
  replace U:=U.oz [0,3,4,5,6]
  refine zsr fun K5 hK5=>g9 U (.move rfl<|.move rfl .nil) fun Y U=>plz (ecl U Tryz.func19 rfl (yJ _ _ L _ _ _ _ (by omega) (m9.into [(1,1),(2,2)] (by decide) rfl)) ?_)
  rintro e bR ⟨x,th,a2,a3,a4,a5,a6,a7,rfl,hx1,hx0,aj⟩
  have aG:=m9.back aj [(1,1),(2,2),(100,3),(101,4),(102,5)] (by decide);clear aj m9
  have a8:=aG.oz [1,2,100,101,102,3]
  refine⟨_,rfl,?_⟩;intro Y U
  refine g9 U (.move rfl<|.extract rfl rfl<|.extract rfl rfl .nil) fun Y U=>plz<|hZ U a8 103 iA rfl fun bS Y bT U a9 _ _=>plz (stw U a9 103 hH fun bU ba _ =>?_)
  refine gz hK5 U (.assign rfl .nil) fun Y U =>?_
  replace U:=U.oz [0,3,4,5,6,7,8]
  refine zsr fun K6 hK6=>g9 U (.move rfl<|.fa 0 rfl U51 .nil) fun Y U=>plz (st1 U ba 103 iG fun bV bb _ =>?_)
  refine znl<|hK6 _ _<|wsk fun K7 hK7 =>?_
  obtain⟨bd,be,aH,bf,ak⟩:=h0.extN (i) (by omega)
  revert U
  cases aH
  intro U
  obtain⟨bg,bh,aI,bi,al⟩:=h0.extN (i+1) (by omega)
  revert U
  cases aI
  intro U
  obtain⟨bj,bk,aJ,bm,ao⟩:=h0.extN (i+2) (by omega)
  revert U
  cases aJ
  intro U
  obtain⟨bn,bo,aK,bp,ap⟩:=h0.extN (i+3) (by omega)
  revert U
  cases aK
  intro U
  have aL:=bb.oz [1,2,3,100,101,102,103]
  refine region_p 21 (B:=[(1,_),(2,_),(3,_),(100,_),(101,_),(102,_),(103,_)]) (aL.to i7l) aL (by kernel_rfl) (fun bW aM aN =>?_);clear aL
  refine goR aM [0,1,2,3,4,5,6,7,8,9,10,11,12,13,14,15,16,17,18,19,20] [0,5,10,15,20] 21 0 2097151 U (aN.to i7l) (.loadBR hh (i:=103) rfl rfl U51 rfl hH (by simp) (by dsimp only [List.drop,List.take] <;> rfl)<|.move rfl<|.move rfl<|.move rfl<|.p (fun _ _ h_=>ii h_ rfl rfl U22 jw (i) rfl (by omega))<|.loadAt1 (fun _ h_=>(ak h_ rfl)) (q:=0) rfl rfl rfl U5 rfl<|.move rfl<|.move rfl<|.add rfl rfl (r:=((i+1:Nat):Int)) (by rw[IntWalk.i64_in _ (by omega)];omega)<|.p (fun _ _ h_=>ii h_ rfl rfl U22 jw (i+1) rfl (by omega))<|.loadAt1 (fun _ h_=>(al h_ rfl)) (q:=0) rfl rfl rfl U5 rfl<|.move rfl<|.move rfl<|.add rfl rfl (r:=((i+2:Nat):Int)) (by rw[IntWalk.i64_in _ (by omega)];omega)<|.p (fun _ _ h_=>ii h_ rfl rfl U22 jw (i+2) rfl (by omega))<|.loadAt1 (fun _ h_=>(ao h_ rfl)) (q:=0) rfl rfl rfl U5 rfl<|.move rfl<|.move rfl<|.add rfl rfl (r:=((i+3:Nat):Int)) (by rw[IntWalk.i64_in _ (by omega)];omega)<|.p (fun _ _ h_=>ii h_ rfl rfl U22 jw (i+3) rfl (by omega))<|.loadAt1 (fun _ h_=>(ap h_ rfl)) (q:=0) rfl rfl rfl U5 rfl .nil) fun Y U=>dtw 21 22 ?_ ?_
  ·
   refine ecl U Tryz.func41 rfl (t3 k id x th _ _ _ _ _ _ _ _ _ _ _ (fun h=>hV _ (hx1 h)) hx0 (by omega) (by omega) (hlb _ (by omega)) (hlb _ (by omega)) (hlb _ (by omega)) (hlb _ (by omega))) ?_
   rintro e bX ⟨kd,vo2,bl2,sz2,pe2,to2,at0,ix,place,it,pp9,cp9,pi9,ci9,rfl,hR,hitb,aO,aP,aQ⟩
   have bq:=aN.callF2 104 105 rfl rfl aQ aO aP
   refine⟨_,rfl,?_⟩;intro Y U
   refine⟨fun h=>(Bool.false_ne_true (h.symm.trans (by rfl))).elim,?_⟩
   refine se 22 ?_
   refine hZ U bq 106 i8 rfl fun bY Y bZ U br _ _=>se 23 ?_
   refine stw U br 106 ip fun b0 aE _ =>?_
   refine wad<|hK7 _ _ ?_
   replace U:=U.oz [0,3,4,5,9]
   refine zsr fun K8 hK8=>g9 U (.loadBR aE (i:=106) rfl rfl U38 rfl ip (by simp) (by dsimp only [List.drop,List.take] <;> rfl) .nil) fun Y U=>plz (ecl U Tryz.func12 rfl (kR kd vo2 bl2 sz2 pe2 to2 at0 ix place it _ _ _ _ _ _ ((aE.rd (i:=104) rfl).any) ((aE.rd (i:=105) rfl).any) (hR.ok (fun e he=>(hitb e he).2))) ?_)
   rintro e b1 ⟨b4,b5,rfl,aR,aS⟩
   have aT:=aE.callF 107 rfl aS aR
   refine⟨_,rfl,?_⟩;intro Y U
   refine gz hK8 U (.move rfl<|.extract rfl rfl<|.extract rfl rfl<|.assign rfl<|.assign rfl<|.nil) fun Y U =>?_
   replace U:=U.oz [0,3,4,5,9,10]
   refine zsr fun K9 hK9=>g9 U (.move rfl<|.move rfl .nil) fun Y U=>plz (ecl U Tryz.func15 rfl (nc _ _ k L _ _ kd vo2 bl2 sz2 pe2 to2 at0 ix place it _ _ _ hV (by omega) (by omega) hS.nodup (hR.ok (fun e he=>(hitb e he).2)) (aT.into [(1,1),(2,2),(3,107)] (by decide) rfl)) ?_)
   rintro e bs ⟨L2,e1,rl1,rf1,rn1,bt,bu,rfl,hap,ad⟩
   have aq:=aT.back ad [(1,1),(2,2)] (by decide);clear ad aT
   have aa:=aq.oz [1,2,3,100,101,102,103,104,105,106]
   refine⟨_,rfl,?_⟩;intro Y U
   refine znl<|hK9 _ _<|wp_region_lit<|g9 U (.move rfl<|.loadBR aa (i:=106) rfl rfl U38 rfl ip (by simp) (by dsimp only [List.drop,List.take] <;> rfl) .nil) fun Y U=>plz (iN U aa 108 (mm:=10) rfl (.cons rfl rfl (.cons (.v _) (.cons (.v _) (.cons (.v _) (.cons (.v _) (.cons (.v _) (.cons (aa.rd (i:=104) rfl) (.cons (.v _) (.cons (.v _) (.cons (.v _) (.cons (aa.rd (i:=105) rfl) .nil)))))))))) .nil) U24 qK rfl rfl rfl rfl rfl fun bv Y bw U aU =>?_)
   have ar:=aU.freezeR 108 rfl
   refine plz<|iM U ar 3 rfl rfl rfl (ar.rd (i:=108) rfl) U24 qK rfl rfl (by decide) (by rw[List.length_map,List.length_singleton];have:=hlen;omega) rfl fun bx bz Y bA U au=>gz hK3 U (.assign rfl .nil) fun Y U =>?_
   replace U:=U.oz [0,3,4,5]
   refine wp_region_lit<|g9 U (.move rfl<|.inc (i+4)<|.assign rfl .nil) fun Y U=>wpList_nil ?_
   show ∃ n',n'<_∧_
   have hE:(cs.map cmD)++[[.v (.int .i64 (⟨kd,vo2,bl2,sz2,pe2,place,to2,at0,ix,it⟩:Cm).kd),.v (.int .i64 (⟨kd,vo2,bl2,sz2,pe2,place,to2,at0,ix,it⟩:Cm).vo),.v (.int .i64 (⟨kd,vo2,bl2,sz2,pe2,place,to2,at0,ix,it⟩:Cm).bl),.v (.int .i64 (⟨kd,vo2,bl2,sz2,pe2,place,to2,at0,ix,it⟩:Cm).sz),.v (.int .i64 (⟨kd,vo2,bl2,sz2,pe2,place,to2,at0,ix,it⟩:Cm).pe),.ns .i64 (⟨kd,vo2,bl2,sz2,pe2,place,to2,at0,ix,it⟩:Cm).pl,.v (.int .i64 (⟨kd,vo2,bl2,sz2,pe2,place,to2,at0,ix,it⟩:Cm).to),.v (.int .i64 (⟨kd,vo2,bl2,sz2,pe2,place,to2,at0,ix,it⟩:Cm).at0),.v (.int .i64 (⟨kd,vo2,bl2,sz2,pe2,place,to2,at0,ix,it⟩:Cm).ix),.l 2 ((⟨kd,vo2,bl2,sz2,pe2,place,to2,at0,ix,it⟩:Cm).its.map itD)]]=(cs++[(⟨kd,vo2,bl2,sz2,pe2,place,to2,at0,ix,it⟩:Cm)]).map cmD:=by rw[List.map_append];rfl
   dsimp only at hE
   rw[hE] at au U
   obtain⟨ha1,ha2,ha3⟩:=qY (c:=(⟨kd,vo2,bl2,sz2,pe2,place,to2,at0,ix,it⟩:Cm)) hS hV (fun e he=>(hitb e he).2)
   rw[hap] at ha1 ha2 ha3;dsimp only at ha1 ha2 ha3
   exact⟨l.length - (i+4),by omega,i+4,k+1,_,_,_,L2,cs++[(⟨kd,vo2,bl2,sz2,pe2,place,to2,at0,ix,it⟩:Cm)],_,_,by omega,by omega,by rw[List.length_append,hlen];rfl,pa hcs hR hitb,by rw[pc hR,← hLc,hap],ha1,by omega,ha3,rfl,U.only [0,3,4,5],au.ren [(1,1),(2,2),(3,3)] (by decide)⟩
  refine hZ U aN 104 i8 rfl fun bB Y bC U av _ _=>⟨fun _=>(av.to i7l),?_⟩
  refine se 21 ?_
  refine ecl U Tryz.func41 rfl (t3 k id x th _ _ _ _ _ _ _ _ _ _ _ (fun h=>hV _ (hx1 h)) hx0 (by omega) (by omega) (hlb _ (by omega)) (hlb _ (by omega)) (hlb _ (by omega)) (hlb _ (by omega))) ?_
  rintro e bE ⟨kd,vo2,bl2,sz2,pe2,to2,at0,ix,place,it,pp9,cp9,pi9,ci9,rfl,hR,hitb,aw,ax,ay⟩
  have aV:=av.callF2 105 106 rfl rfl ay aw ax
  refine⟨_,rfl,?_⟩;intro Y U
  refine se 23 ?_
  refine stw U aV 104 ip fun bF ab _ =>?_
  refine wad<|hK7 _ _ ?_
  replace U:=U.oz [0,3,4,5,9]
  refine zsr fun b6 aW=>g9 U (.loadBR ab (i:=104) rfl rfl U38 rfl ip (by simp) (by dsimp only [List.drop,List.take] <;> rfl) .nil) fun Y U=>plz (ecl U Tryz.func12 rfl (kR kd vo2 bl2 sz2 pe2 to2 at0 ix place it _ _ _ _ _ _ ((ab.rd (i:=105) rfl).any) ((ab.rd (i:=106) rfl).any) (hR.ok (fun e he=>(hitb e he).2))) ?_)
  rintro e bG ⟨bH,bI,rfl,az,aA⟩
  have ah:=ab.callF 107 rfl aA az
  refine⟨_,rfl,?_⟩;intro Y U
  refine gz aW U (.move rfl<|.extract rfl rfl<|.extract rfl rfl<|.assign rfl<|.assign rfl<|.nil) fun Y U =>?_
  replace U:=U.oz [0,3,4,5,9,10]
  refine zsr fun b7 aX=>g9 U (.move rfl<|.move rfl .nil) fun Y U=>plz (ecl U Tryz.func15 rfl (nc _ _ k L _ _ kd vo2 bl2 sz2 pe2 to2 at0 ix place it _ _ _ hV (by omega) (by omega) hS.nodup (hR.ok (fun e he=>(hitb e he).2)) (ah.into [(1,1),(2,2),(3,107)] (by decide) rfl)) ?_)
  rintro e bJ ⟨L2,e1,rl1,rf1,rn1,bK,bL,rfl,hap,ae⟩
  have aB:=ah.back ae [(1,1),(2,2)] (by decide);clear ae ah
  have ac:=aB.oz [1,2,3,100,101,102,103,104,105,106]
  refine⟨_,rfl,?_⟩;intro Y U
  refine znl<|aX _ _<|wp_region_lit<|g9 U (.move rfl<|.loadBR ac (i:=104) rfl rfl U38 rfl ip (by simp) (by dsimp only [List.drop,List.take] <;> rfl) .nil) fun Y U=>plz (iN U ac 108 (mm:=10) rfl (.cons rfl rfl (.cons (.v _) (.cons (.v _) (.cons (.v _) (.cons (.v _) (.cons (.v _) (.cons (ac.rd (i:=105) rfl) (.cons (.v _) (.cons (.v _) (.cons (.v _) (.cons (ac.rd (i:=106) rfl) .nil)))))))))) .nil) U24 qK rfl rfl rfl rfl rfl fun bM Y bN U aY =>?_)
  have aC:=aY.freezeR 108 rfl
  refine plz<|iM U aC 3 rfl rfl rfl (aC.rd (i:=108) rfl) U24 qK rfl rfl (by decide) (by rw[List.length_map,List.length_singleton];have:=hlen;omega) rfl fun bO bP Y bQ U aD=>gz hK3 U (.assign rfl .nil) fun Y U =>?_
  replace U:=U.oz [0,3,4,5]
  refine wp_region_lit<|g9 U (.move rfl<|.inc (i+4)<|.assign rfl .nil) fun Y U=>wpList_nil ?_
  show ∃ n',n'<_∧_
  have hE:(cs.map cmD)++[[.v (.int .i64 (⟨kd,vo2,bl2,sz2,pe2,place,to2,at0,ix,it⟩:Cm).kd),.v (.int .i64 (⟨kd,vo2,bl2,sz2,pe2,place,to2,at0,ix,it⟩:Cm).vo),.v (.int .i64 (⟨kd,vo2,bl2,sz2,pe2,place,to2,at0,ix,it⟩:Cm).bl),.v (.int .i64 (⟨kd,vo2,bl2,sz2,pe2,place,to2,at0,ix,it⟩:Cm).sz),.v (.int .i64 (⟨kd,vo2,bl2,sz2,pe2,place,to2,at0,ix,it⟩:Cm).pe),.ns .i64 (⟨kd,vo2,bl2,sz2,pe2,place,to2,at0,ix,it⟩:Cm).pl,.v (.int .i64 (⟨kd,vo2,bl2,sz2,pe2,place,to2,at0,ix,it⟩:Cm).to),.v (.int .i64 (⟨kd,vo2,bl2,sz2,pe2,place,to2,at0,ix,it⟩:Cm).at0),.v (.int .i64 (⟨kd,vo2,bl2,sz2,pe2,place,to2,at0,ix,it⟩:Cm).ix),.l 2 ((⟨kd,vo2,bl2,sz2,pe2,place,to2,at0,ix,it⟩:Cm).its.map itD)]]=(cs++[(⟨kd,vo2,bl2,sz2,pe2,place,to2,at0,ix,it⟩:Cm)]).map cmD:=by rw[List.map_append];rfl
  dsimp only at hE
  rw[hE] at aD U
  obtain⟨ha1,ha2,ha3⟩:=qY (c:=(⟨kd,vo2,bl2,sz2,pe2,place,to2,at0,ix,it⟩:Cm)) hS hV (fun e he=>(hitb e he).2)
  rw[hap] at ha1 ha2 ha3;dsimp only at ha1 ha2 ha3
  exact⟨l.length - (i+4),by omega,i+4,k+1,_,_,_,L2,cs++[(⟨kd,vo2,bl2,sz2,pe2,place,to2,at0,ix,it⟩:Cm)],_,_,by omega,by omega,by rw[List.length_append,hlen];rfl,pa hcs hR hitb,by rw[pc hR,← hLc,hap],ha1,by omega,ha3,rfl,U.only [0,3,4,5],aD.ren [(1,1),(2,2),(3,3)] (by decide)⟩
 intro ag U;try simp only [QQ,Qax] at ag
 refine wcf U<|wp_exit<|hK1 _ _<|hC U (.move rfl<|.assign rfl .nil) fun Y U=>rt1 U ?_
 exact⟨cs,_,_,rfl,by omega,hcs,m9.outR (i:=3) rfl,m9.below⟩
end
section
theorem nf(L:List VolV)(p q:Option Addr)(c d:Nat)(w0:World)(h0:Rd (fun _=>True) w0 (.slice p (L.map ij).length c) (.l 11 (L.map ij)))(h1:Rd (fun _=>True) w0 (.slice q (L.map ij).length d) (.l 11 (L.map ij)))(hB:∀ y∈L,tZ y)(hl:L.length≤1000000) :
   Calls Tryz.prog 16 #[.slice p (L.map ij).length c,.slice q (L.map ij).length d] w0 fun e w'=>e=.returned (.bool true)∧Below w0.heap.size w0 w':=by
 refine iZ Tryz.func16 rfl Tryz.ntmps16 fun Y U =>?_
 have m0:=MemOk.start (fun _=>False) w0
 have hll:(L.map ij).length=L.length:=List.length_map ..
 refine hC U (.assign rfl .nil) fun Y U=>wsk fun K0 hK0=>hC U (.move rfl<|.len rfl U30<|.move rfl<|.len rfl U30<|.neq rfl rfl .nil) fun Y U=>bcF U 10 fun U=>wcf U<|zss<|hK0 _ _<|wsk fun K1 hK1=>hC U (.assign rfl .nil) fun Y U=>wp_block<|wp_loop_ghost (fun g a w => ∃ k:Nat,k≤L.length∧g=L.length - k∧Has 27 [(0,.slice p (L.map ij).length c),(1,.slice q (L.map ij).length d),(5,.int .i64 k)] a∧MemOk (cn w0) w0 [] w) (L.length) ?_ ?_
 · exact⟨0,Nat.zero_le _,rfl,U.only [0,1,5],m0.only []⟩
 clear U m0
 rintro g Y w9 ⟨k,hkl,hg,U,m9⟩
 refine wsk fun K2 hK2=>hC U (.move rfl<|.move rfl<|.len rfl U30<|.lss rfl rfl .nil) fun Y U=>bc U 14 ?_ ?_
 ·
  intro aB U;try simp only [QQ,Qax] at aB
  have hk:k<L.length:=by have:=aB;simp at this;omega
  obtain⟨y,hes⟩:∃ e,L[k]? = some e:=⟨_,List.getElem?_eq_getElem hk⟩
  refine wct U<|zss<|hK2 _ _<|wsk fun K3 hK3=>wp_block<|wsk fun K4 hK4 =>?_
  obtain⟨aR,aS,aT,aG,aU,aH,aD⟩:=h0.extA (k) (r:=[.v (.int .i64 y.vo),.v (.int .i64 y.bl),.v (.int .i64 y.sz),.v (.int .i64 y.pe),.ns .i64 y.place,.v (.int .i64 y.to),.v (.int .i64 y.ne),.v (.bool y.hi),.v (.int .i64 y.fl),.ns .i64 y.pins,.l 2 (y.ws.map wrD)]) (iT hes)
  revert U
  cases aG
  rcases aH with _|⟨ac,_|⟨ad,_|⟨ae,_|⟨ag,_|⟨ah,_|⟨ai,_|⟨aj,_|⟨ak,_|⟨al,_|⟨ao,_|⟨aa,_|_⟩⟩⟩⟩⟩⟩⟩⟩⟩⟩⟩
  obtain rfl:=ac.v_out
  clear ac
  obtain rfl:=ad.v_out
  clear ad
  obtain rfl:=ae.v_out
  clear ae
  obtain rfl:=ag.v_out
  clear ag
  obtain⟨a6,a7,aI,aV⟩:=ah.ns_shape;subst aI
  obtain rfl:=ai.v_out
  clear ai
  obtain rfl:=aj.v_out
  clear aj
  obtain rfl:=ak.v_out
  clear ak
  obtain rfl:=al.v_out
  clear al
  obtain⟨a8,a9,aJ,aW⟩:=ao.ns_shape;subst aJ
  obtain⟨ba,bb,aK,aX⟩:=aa.l_shape;subst aK
  intro U
  obtain⟨aY,aZ,a0,aL,a1,aM,aE⟩:=h1.extA (k) (r:=[.v (.int .i64 y.vo),.v (.int .i64 y.bl),.v (.int .i64 y.sz),.v (.int .i64 y.pe),.ns .i64 y.place,.v (.int .i64 y.to),.v (.int .i64 y.ne),.v (.bool y.hi),.v (.int .i64 y.fl),.ns .i64 y.pins,.l 2 (y.ws.map wrD)]) (iT hes)
  revert U
  cases aL
  rcases aM with _|⟨ap,_|⟨aq,_|⟨ar,_|⟨au,_|⟨av,_|⟨aw,_|⟨ax,_|⟨ay,_|⟨az,_|⟨aA,_|⟨ab,_|_⟩⟩⟩⟩⟩⟩⟩⟩⟩⟩⟩
  obtain rfl:=ap.v_out
  clear ap
  obtain rfl:=aq.v_out
  clear aq
  obtain rfl:=ar.v_out
  clear ar
  obtain rfl:=au.v_out
  clear au
  obtain⟨bd,be,aN,a2⟩:=av.ns_shape;subst aN
  obtain rfl:=aw.v_out
  clear aw
  obtain rfl:=ax.v_out
  clear ax
  obtain rfl:=ay.v_out
  clear ay
  obtain rfl:=az.v_out
  clear az
  obtain⟨bf,bg,aO,a3⟩:=aA.ns_shape;subst aO
  obtain⟨bh,bi,aP,a4⟩:=ab.l_shape;subst aP
  intro U
  have aQ:MemOk _ _ [] _:=m9.only [];clear m9
  refine region_p 8 (B:=[]) (aQ.to trivial) aQ (by kernel_rfl) (fun bj aF aC =>?_);clear aQ
  refine goR aF [0,1,2,3,4,5,6,7] [3,7] 8 0 255 U (aC.to trivial) (.move rfl<|.move rfl<|.p (fun _ _ h_=>ii h_ rfl rfl U30 hH (k) rfl (by simpa using hk))<|.loadAt (fun _ h_=>(aD h_ rfl)) rfl U51 rfl hH<|.move rfl<|.move rfl<|.p (fun _ _ h_=>ii h_ rfl rfl U30 hH (k) rfl (by simpa using hk))<|.loadAt (fun _ h_=>(aE h_ rfl)) rfl U51 rfl hH .nil) fun Y U=>se 8 ?_
  refine ecb U Tryz.func20 rfl aC (yI (decide_eq_true ⟨⟨rfl,rfl,rfl,rfl,rfl,rfl⟩,rfl,rfl,rfl,rfl,rfl⟩) (zm y y _ _ _ _ _ _ _ _ _ _ _ _ _ _ _ (hB y (List.mem_of_getElem? hes)) (hB y (List.mem_of_getElem? hes)) ((ah.now' aC rfl).any) ((ao.now' aC rfl).any) ((aa.now' aC rfl).any) ((av.now' aC rfl).any) ((aA.now' aC rfl).any) ((ab.now' aC rfl).any))) fun Y bk U a5=>goB aF [9] 1 511 1023 U (.not rfl .nil) fun Y U=>wad<|hK4 _ _<|wcf U<|zss (hK3 _ _ ?_)
  replace U:=U.oz [0,1,5]
  refine wp_region_lit<|g9 U (.move rfl<|.inc (k+1)<|.assign rfl .nil) fun Y U=>wpList_nil ?_
  show ∃ n',n'<_∧_
  exact⟨L.length - (k+1),by omega,k+1,by omega,rfl,U.only [0,1,5],a5.only []⟩
 intro aB U;try simp only [QQ,Qax] at aB
 refine wcf U<|wp_exit<|hK1 _ _<|hC U (.assign rfl .nil) fun Y U=>rt1 U ?_
 exact⟨rfl,m9.below⟩
end
section
theorem xo(bl sz:Int)(ws:List PWr)(it):(wrR bl sz ws it=(ws++[((ws.length:Int)+1,it)],0))∨wrR bl sz ws it=(ws,23):=by
 unfold wrR;split
 · exact .inl rfl
 exact .inr rfl
theorem yK{x y:VolV}{c:Cm}{e:Int}(h:doV x c=(y,e)) :
   (e=0→c.kd=2→y.ws=x.ws++[((x.ws.length:Int)+1,c.its)])∧
   (e=0→c.kd=6→y.ws=x.ws++[((x.ws.length:Int)+1,c.its)]∨(y.ws=x.ws∧x.hi=true∧0≤c.ix∧c.ix≤x.ne - 1))∧
   (y.ws=x.ws∨((c.kd=2∨c.kd=6)∧y.ws=x.ws++[((x.ws.length:Int)+1,c.its)]))∧
   ((x.hi=true→x.ne=x.ws.length)→(y.hi=true→y.ne=y.ws.length)):=by
 unfold doV at h
 split at h
 · rename_i hk
   obtain⟨h1,h2⟩:=Prod.mk.inj h
   subst h1
   exact⟨fun _ h9=>by omega,fun _ h9=>by omega,.inl rfl,fun h9=>h9⟩
 split at h
 · rename_i hk
   obtain⟨h1,h2⟩:=Prod.mk.inj h
   subst h1
   exact⟨fun _ h9=>by omega,fun _ h9=>by omega,.inl rfl,fun h9=>h9⟩
 obtain⟨ne',hi',fl',ws',e',hd⟩:∃ a b d f g,doR x.bl x.sz x.to x.ne x.fl x.hi x.pins x.ws c.kd c.at0 c.ix c.its=(a,b,d,f,g):=⟨_,_,_,_,_,rfl⟩
 rw[hd] at h
 obtain⟨h1,h2⟩:=Prod.mk.inj h
 dsimp only at h1 h2
 subst h1;subst h2
 dsimp only
 unfold doR at hd
 split at hd
 · rename_i hk
   unfold q5 at hd
   split at hd
   · simp only [Prod.mk.injEq] at hd;obtain⟨rfl,rfl,rfl,rfl,rfl⟩:=hd
     exact⟨fun h9=>by simp at h9,fun h9=>by simp at h9,.inl rfl,fun h9=>h9⟩
   rename_i hh
   rcases xo x.bl x.sz x.ws c.its with hw|hw
   · rw[hw] at hd;simp only [Prod.mk.injEq] at hd;obtain⟨rfl,rfl,rfl,rfl,rfl⟩:=hd
     exact⟨fun _ _=>rfl,fun _ h9=>by omega,.inr ⟨.inl hk,rfl⟩,fun _ h9=>absurd h9 hh⟩
   rw[hw] at hd;simp only [Prod.mk.injEq] at hd;obtain⟨rfl,rfl,rfl,rfl,rfl⟩:=hd
   exact⟨fun h9=>by simp at h9,fun h9=>by simp at h9,.inl rfl,fun h9=>h9⟩
 split at hd
 · rename_i h2 hk
   unfold ka at hd
   split at hd
   · simp only [Prod.mk.injEq] at hd;obtain⟨rfl,rfl,rfl,rfl,rfl⟩:=hd
     exact⟨fun _ h9=>absurd h9 h2,fun _ h9=>by omega,.inl rfl,fun h9=>h9⟩
   simp only [Prod.mk.injEq] at hd;obtain⟨rfl,rfl,rfl,rfl,rfl⟩:=hd
   exact⟨fun _ h9=>absurd h9 h2,fun _ h9=>by omega,.inl rfl,fun h9=>h9⟩
 split at hd
 · rename_i h2 h3 hk
   unfold takeR at hd
   split at hd
   · simp only [Prod.mk.injEq] at hd;obtain⟨rfl,rfl,rfl,rfl,rfl⟩:=hd
     exact⟨fun h9=>by simp at h9,fun h9=>by simp at h9,.inl rfl,fun h9=>h9⟩
   split at hd
   · rename_i hh hix
     simp only [Prod.mk.injEq] at hd;obtain⟨rfl,rfl,rfl,rfl,rfl⟩:=hd
     exact⟨fun _ h9=>absurd h9 h2,fun _ _=>.inr ⟨rfl,by simpa using hh,hix⟩,.inl rfl,fun h9=>h9⟩
   split at hd
   · simp only [Prod.mk.injEq] at hd;obtain⟨rfl,rfl,rfl,rfl,rfl⟩:=hd
     exact⟨fun h9=>by simp at h9,fun h9=>by simp at h9,.inl rfl,fun h9=>h9⟩
   rcases xo x.bl x.sz x.ws c.its with hw|hw
   · rw[hw] at hd;simp only [if_true,Prod.mk.injEq] at hd;obtain⟨rfl,rfl,rfl,rfl,rfl⟩:=hd
     exact⟨fun _ h9=>absurd h9 h2,fun _ _=>.inl rfl,.inr ⟨.inr hk,rfl⟩,fun h9 h8=>by rw[List.length_append];have:=h9 h8;simp;omega⟩
   rw[hw] at hd;simp [Prod.mk.injEq] at hd;obtain⟨rfl,rfl,rfl,rfl,rfl⟩:=hd
   exact⟨fun h9=>by simp at h9,fun h9=>by simp at h9,.inl rfl,fun h9=>h9⟩
 split at hd
 · rename_i h2 h3 h6 hk
   unfold jd at hd
   split at hd
   · simp only [Prod.mk.injEq] at hd;obtain⟨rfl,rfl,rfl,rfl,rfl⟩:=hd
     exact⟨fun h9=>by simp at h9,fun h9=>by simp at h9,.inl rfl,fun h9=>h9⟩
   simp only [Prod.mk.injEq] at hd;obtain⟨rfl,rfl,rfl,rfl,rfl⟩:=hd
   exact⟨fun _ h9=>absurd h9 h2,fun _ h9=>absurd h9 h6,.inl rfl,fun _ h9=>by simp at h9⟩
 split at hd
 · rename_i h2 h3 h6 h7 hk
   simp only [Prod.mk.injEq] at hd;obtain⟨rfl,rfl,rfl,rfl,rfl⟩:=hd
   exact⟨fun _ h9=>absurd h9 h2,fun _ h9=>absurd h9 h6,.inl rfl,fun h9=>h9⟩
 rename_i h2 h3 h6 h7 h8
 simp only [Prod.mk.injEq] at hd;obtain⟨rfl,rfl,rfl,rfl,rfl⟩:=hd
 exact⟨fun _ h9=>absurd h9 h2,fun _ h9=>absurd h9 h6,.inl rfl,fun h9=>h9⟩
structure HI (ts:List Tl) (R:List VolV):Prop where
 a:∀ t:Tl,t∈ts→t.e9=0→t.c.kd≠1→∃ x∈R,x.vo=t.c.vo∧t.rl≤x.ws.length∧(t.c.kd=2∨t.c.kd=6→1≤t.rl)∧(t.c.kd=2→x.ws[(t.rl - 1).toNat]? = some (t.rl,t.c.its))
 b:∀ (i j:Nat) (u v:Tl),i<j→ts[i]? = some u→ts[j]? = some v→u.c.vo=v.c.vo→u.e9=0→v.e9=0→u.c.kd≠1→v.c.kd≠1→u.rl≤v.rl∧(v.c.kd=2→u.rl<v.rl)
 c:∀ x∈R,∀ w∈x.ws,∃ t∈ts,t.c.vo=x.vo∧(t.c.kd=2∨t.c.kd=6)∧t.c.its=w.2
 d:∀ x∈R,x.hi=true→x.ne=x.ws.length
theorem HI.nil:HI [] []:=⟨(fun _ h=>by cases h),(fun i j u v _ h=>by simp at h),(fun _ h=>by cases h),(fun _ h=>by cases h)⟩
theorem HI.same{ts:List Tl}{t:Tl}(h:HI ts R)(ht:t.e9≠0∨t.c.kd=1)(hs:∀ x∈R,x∈R')(hn:∀ x∈R',x∈R∨(x.ws=[]∧(x.hi=true→x.ne=0))):HI (ts++[t]) R':=by
 refine⟨fun u hu h0 hk =>?_,fun i j u v hij hi hj hv hu0 hv0 hu1 hv1 =>?_,fun x hx w hw =>?_,fun x hx hh =>?_⟩
 · rcases List.mem_append.1 hu with hu|hu
   · obtain⟨x,hx,r⟩:=h.a u hu h0 hk
     exact⟨x,hs x hx,r⟩
   simp at hu;subst hu
   rcases ht with ht|ht
   · exact absurd h0 ht
   exact absurd ht hk
 · have hjl:j<ts.length:=by
     rcases Nat.lt_or_ge j ts.length with h9|h9
     · exact h9
     rw[List.getElem?_append_right h9] at hj
     have:v=t:=by
       rcases Nat.eq_zero_or_pos (j - ts.length) with h8|h8
       · rw[h8] at hj;simpa using hj.symm
       rw[List.getElem?_eq_none (by simp;omega)] at hj;cases hj
     subst this
     rcases ht with ht|ht
     · exact absurd hv0 ht
     exact absurd ht hv1
   rw[List.getElem?_append_left (by omega)] at hi
   rw[List.getElem?_append_left hjl] at hj
   exact h.b i j u v hij hi hj hv hu0 hv0 hu1 hv1
 · rcases hn x hx with hx|⟨hx,_⟩
   · obtain⟨u,hu,r⟩:=h.c x hx w hw
     exact⟨u,List.mem_append_left _ hu,r⟩
   rw[hx] at hw;cases hw
 rcases hn x hx with hx|⟨hx,h8⟩
 · exact h.d x hx hh
 rw[hx];exact h8 hh
theorem HI.step{ts:List Tl}{t:Tl}(h:HI ts R)(hs:SrtV R)(ha:kl R t.c=(R',t.e9,t.rl,t.rf,t.rn)):HI (ts++[t]) R':=by
 by_cases hk:t.c.kd=1
 · by_cases he:∃ y∈R,y.vo=t.c.vo
   · rw[k9 hk he] at ha
     obtain rfl:=(Prod.mk.inj ha).1
     exact h.same (.inr hk) (fun x hx=>hx) (fun x hx=>.inl hx)
   by_cases hN:iQ t.c.vo t.c.bl t.c.sz t.c.pe t.c.to t.c.pl
   · rw[kl,if_pos hk,if_neg he,if_pos hN] at ha
     obtain rfl:=(Prod.mk.inj ha).1
     refine h.same (.inr hk) (fun x hx=>kv.mem_iff.1 (List.mem_append_left _ hx)) (fun x hx =>?_)
     rcases List.mem_append.1 (kv.mem_iff.2 hx) with hx|hx
     · exact .inl hx
     simp at hx;subst hx;exact .inr ⟨rfl,fun _=>rfl⟩
   rw[ku hk he hN] at ha
   obtain rfl:=(Prod.mk.inj ha).1
   exact h.same (.inr hk) (fun x hx=>hx) (fun x hx=>.inl hx)
 by_cases he:∃ y∈R,y.vo=t.c.vo
 · obtain⟨x,hxR,hxv⟩:=he
   obtain⟨j,hj⟩:=List.getElem?_of_mem hxR
   obtain⟨y,e9,hd⟩:∃ y e9,doV x t.c=(y,e9):=⟨_,_,rfl⟩
   obtain⟨rl,rf,rn,hr⟩:∃ rl rf rn,nu y e9=(rl,rf,rn):=⟨_,_,_,rfl⟩
   rw[la hk hs.nodup hj hxv hd hr] at ha
   simp only [Prod.mk.injEq] at ha
   obtain⟨rfl,rfl,h1,-,-⟩:=ha
   obtain⟨w2,w6,ww,wd⟩:=yK hd
   have hyv:y.vo=x.vo:=o9 hd
   have hrl:t.e9=0→t.rl=y.ws.length:=fun h0=>by rw[nu,if_pos h0] at hr;rw[← h1];exact(Prod.mk.inj hr).1.symm
   have hyR:y∈R.set j y:=List.mem_iff_getElem?.2 ⟨j,by rw[List.getElem?_set_self (List.getElem?_eq_some_iff.1 hj).1]⟩
   have hold:∀ z∈R,z.vo≠x.vo→z∈R.set j y:=fun z hz hne=>by
     rw[ol hs.nodup hj]
     exact List.mem_map.2 ⟨z,hz,by rw[if_neg hne]⟩
   have hnew:∀ z∈R.set j y,z=y∨z∈R:=fun z hz=>(List.mem_or_eq_of_mem_set hz).elim .inr .inl
   have hle:x.ws.length≤y.ws.length:=by
     rcases ww with e|⟨_,e⟩
     · rw[e];exact Nat.le_refl _
     rw[e,List.length_append];omega
   have hget:∀ (k:Nat) (w:PWr),x.ws[k]? = some w→y.ws[k]? = some w:=fun k w hkw=>by
     rcases ww with e|⟨_,e⟩
     · rw[e];exact hkw
     rw[e,List.getElem?_append_left (List.getElem?_eq_some_iff.1 hkw).1];exact hkw
   have hold1:∀ u∈ts,u.e9=0→u.c.kd≠1→u.c.vo=t.c.vo→u.rl≤x.ws.length:=fun u hu h0 hk9 hv9=>by
     obtain⟨z,hz,hzv,hzl,_⟩:=h.a u hu h0 hk9
     rwa [qX hs.nodup hz hxR (by rw[hzv,hv9,hxv])] at hzl
   refine⟨fun u hu h0 hk9 =>?_,fun i k u v hik hi hk8 hv hu0 hv0 hu1 hv1 =>?_,fun z hz w hw =>?_,fun z hz hh =>?_⟩
   · rcases List.mem_append.1 hu with hu|hu
     · obtain⟨z,hz,hzv,hzl,hz1,hz2⟩:=h.a u hu h0 hk9
       by_cases hzx:z.vo=x.vo
       · have e:=qX hs.nodup hz hxR hzx
         subst e
         exact⟨y,hyR,by rw[hyv,hzv],by omega,hz1,fun h2=>hget _ _ (hz2 h2)⟩
       exact⟨z,hold z hz hzx,hzv,hzl,hz1,hz2⟩
     simp at hu;subst hu
     have hl:=hrl h0
     refine⟨y,hyR,by rw[hyv,hxv],by omega,fun aa =>?_,fun h2 =>?_⟩
     · rcases aa with h2|h6
       · rw[hl,w2 h0 h2,List.length_append];simp;omega
       rcases w6 h0 h6 with e|⟨e,hh,h3,h4⟩
       · rw[hl,e,List.length_append];simp;omega
       have:=h.d x hxR hh;rw[hl,e];omega
     have e:=w2 h0 h2
     rw[hl,e,List.length_append]
     have e2:(((x.ws.length + [((x.ws.length:Int)+1,u.c.its)].length:Nat):Int) - 1).toNat=x.ws.length:=by simp
     rw[e2,List.getElem?_append_right (Nat.le_refl _),Nat.sub_self]
     simp
   · have hil:i<ts.length∨ts.length≤i:=Nat.lt_or_ge _ _
     rcases Nat.lt_or_ge k ts.length with h9|h9
     · rw[List.getElem?_append_left (by omega)] at hi
       rw[List.getElem?_append_left h9] at hk8
       exact h.b i k u v hik hi hk8 hv hu0 hv0 hu1 hv1
     have hvt:v=t∧k=ts.length:=by
       rw[List.getElem?_append_right h9] at hk8
       rcases Nat.eq_zero_or_pos (k - ts.length) with h8|h8
       · rw[h8] at hk8;exact⟨by simpa using hk8.symm,by omega⟩
       rw[List.getElem?_eq_none (by simp;omega)] at hk8;cases hk8
     obtain⟨rfl,rfl⟩:=hvt
     rw[List.getElem?_append_left hik] at hi
     have h7:=hold1 u (List.mem_of_getElem? hi) hu0 hu1 hv
     have hl:=hrl hv0
     refine⟨by omega,fun h2 =>?_⟩
     have:=w2 hv0 h2
     rw[hl,this,List.length_append];simp;omega
   · rcases hnew z hz with rfl|hz9
     · rcases ww with e|⟨hkk,e⟩
       · rw[e] at hw
         obtain⟨u,hu,r1,r2,r3⟩:=h.c x hxR w hw
         exact⟨u,List.mem_append_left _ hu,by rw[r1,hyv],r2,r3⟩
       rw[e] at hw
       rcases List.mem_append.1 hw with hw|hw
       · obtain⟨u,hu,r1,r2,r3⟩:=h.c x hxR w hw
         exact⟨u,List.mem_append_left _ hu,by rw[r1,hyv],r2,r3⟩
       simp at hw;subst hw
       exact⟨t,List.mem_append_right _ (List.mem_singleton.2 rfl),by rw[hyv,hxv],hkk,rfl⟩
     obtain⟨u,hu,r⟩:=h.c z hz9 w hw
     exact⟨u,List.mem_append_left _ hu,r⟩
   rcases hnew z hz with rfl|hz9
   · exact wd (h.d x hxR) hh
   exact h.d z hz9 hh
 rw[km hk he] at ha
 simp only [Prod.mk.injEq] at ha
 obtain⟨rfl,h1,-⟩:=ha
 exact h.same (.inl (by rw[← h1];decide)) (fun x hx=>hx) (fun x hx=>.inl hx)
end
section
def TmT(ts:List Tl):Prop:=∀ (i:Nat) (t:Tl),ts[i]? = some t→t.fr=2*(i:Int)∧t.to=2*(i:Int)+1
theorem HI.pw{ts:List Tl}(h:HI ts R):ts.Pairwise (fun u v=>u.c.vo=v.c.vo→u.e9=0→v.e9=0→u.c.kd≠1→v.c.kd≠1→u.rl≤v.rl∧(v.c.kd=2→u.rl<v.rl)):=
 List.pairwise_iff_getElem.2 (fun i j hi hj hij=>h.b i j _ _ hij (List.getElem?_eq_getElem hi) (List.getElem?_eq_getElem hj))
end
section
theorem va:iO Tryz.prog 51 [.int .i64 0,.int .i64 0,.int .i64 0,.int .i64 0,.slice none 0 0,.int .i64 0,.int .i64 0,.bool false,.int .i64 0,.slice none 0 0,.slice none 0 0]=true:=by kernel_rfl
theorem vb(X B)(L:List VolV)(p)(c:Nat)(vo w0)(hl:L.length≤1000000)(m0:MemOk X w0 [(1,.box B 32 [.slice p (L.map ij).length c]),(2,.dat (.slice p (L.map ij).length c) (.l 11 (L.map ij)))] w0) :
   Calls Tryz.prog 19 #[.pointer (some ⟨B,0,none⟩),.int .i64 vo] w0 fun e w' => ∃ (x:VolV) (there:Bool) (p1 p2 p3:Option Addr) (d1 d2 d3:Nat),e=.returned (.tuple #[.agg #[.int .i64 x.vo,.int .i64 x.bl,.int .i64 x.sz,.int .i64 x.pe,.slice p1 x.place.length d1,.int .i64 x.to,.int .i64 x.ne,.bool x.hi,.int .i64 x.fl,.slice p2 x.pins.length d2,.slice p3 (x.ws.map wrD).length d3],.bool there])∧(there=true→x∈L∧x.vo=vo)∧(there=false→x=jM∧¬ ∃ y∈L,y.vo=vo)∧MemOk X w0 [(1,.box B 32 [.slice p (L.map ij).length c]),(2,.dat (.slice p (L.map ij).length c) (.l 11 (L.map ij))),(3,.dat (.slice p1 x.place.length d1) (.ns .i64 x.place)),(4,.dat (.slice p2 x.pins.length d2) (.ns .i64 x.pins)),(5,.dat (.slice p3 (x.ws.map wrD).length d3) (.l 2 (x.ws.map wrD)))] w':=by
 refine iZ Tryz.func19 rfl Tryz.ntmps19 fun Y U=>zsr fun K0 hK0=>plz<|hZ U m0 20 iA rfl fun g1 Y w2 U m2 _ _=>gz hK0 U (.assign rfl .nil) fun Y U=>zsr fun K1 hK1=>g9 U (.move rfl<|.move rfl .nil) fun Y U=>plz (ecl U Tryz.func49 rfl (qR _ _ L _ _ _ _ hl (m2.into [(1,1),(2,2)] (by decide) rfl)) ?_)
 rintro e w8 ⟨j,rfl,hj,hm8⟩
 have mx8:=m2.back hm8 [(1,1),(2,2)] (by decide);clear hm8 m2
 have m8:=mx8.oz [1,2,20]
 refine⟨_,rfl,?_⟩;intro Y U
 refine gz hK1 U (.assign rfl .nil) fun Y U=>wsk fun K2 hK2=>hC U (.move rfl<|.lss rfl rfl .nil) fun Y U=>bc U 11 ?_ ?_
 ·
  intro ad U;try simp only [QQ,Qax] at ad
  have hnx:¬ ∃ y∈L,y.vo=vo:=qV hj (by have h9:=ad;first|omega|(simp at h9;omega))
  refine wct U ?_
  replace U:=U.oz [0,4,5,6]
  refine zsr fun K3 hK3=>g9 U (.build rfl iA va rfl (by dsimp only [iY,List.set] <;> rfl) .nil) fun Y U=>plz (stw U m8 20 hH fun aH ax _ =>?_)
  refine gz hK3 U (.assign rfl .nil) fun Y U=>rtd (iF (fn:=Tryz.f19) U ax (i:=20) rfl rfl rfl rfl U51 rfl hH ?_)
  have mA:=ax.dat 91 rfl (Rd.nilN _ _ .i64 none)
  have mB:=mA.dat 92 rfl (Rd.nilN _ _ .i64 none)
  have mC:=mB.dat 93 rfl (Rd.l0 none 0 2)
  exact⟨jM,false,_,_,_,_,_,_,rfl,(fun h=>by cases h),(fun _=>⟨rfl,hnx⟩),mC.ren [(1,1),(2,2),(3,91),(4,92),(5,93)] (by decide)⟩
 intro ad U;try simp only [QQ,Qax] at ad
 revert U
 obtain⟨jn,x,rfl,hes,hxv⟩:=qW hj (by have h9:=ad;first|omega|(simp at h9;omega))
 intro U
 have hjl:jn<L.length:=(List.getElem?_eq_some_iff.1 hes).1
 refine wcf U<|zss (hK2 _ _ ?_)
 replace U:=U.oz [0,4,5,6]
 refine zsr fun K4 hK4=>g9 U (.move rfl<|.nilCheck rfl<|.fa 0 rfl U32<|.lb m8 1 U30 rfl rfl rfl<|.move rfl .nil) fun Y U =>?_
 obtain⟨aI,aJ,aD,ap,aq,ar,ay⟩:=m8.openR (i:=2) rfl (jn) (r:=[.v (.int .i64 x.vo),.v (.int .i64 x.bl),.v (.int .i64 x.sz),.v (.int .i64 x.pe),.ns .i64 x.place,.v (.int .i64 x.to),.v (.int .i64 x.ne),.v (.bool x.hi),.v (.int .i64 x.fl),.ns .i64 x.pins,.l 2 (x.ws.map wrD)]) (iT hes) 21 rfl
 revert U
 cases ap;clear m8 ar
 rcases aq with _|⟨ae,_|⟨ag,_|⟨ah,_|⟨ai,_|⟨ab,_|⟨aj,_|⟨ak,_|⟨al,_|⟨ao,_|⟨ac,_|⟨aa,_|_⟩⟩⟩⟩⟩⟩⟩⟩⟩⟩⟩
 obtain rfl:=ae.v_out
 clear ae
 obtain rfl:=ag.v_out
 clear ag
 obtain rfl:=ah.v_out
 clear ah
 obtain rfl:=ai.v_out
 clear ai
 obtain⟨aK,aL,au,aE⟩:=ab.ns_shape;subst au
 intro U
 have az:=ay.dat 22 rfl (ab.cast (fun _ h=>(ia rfl h)));clear ay ab
 revert U
 obtain rfl:=aj.v_out
 clear aj
 obtain rfl:=ak.v_out
 clear ak
 obtain rfl:=al.v_out
 clear al
 obtain rfl:=ao.v_out
 clear ao
 obtain⟨aM,aN,av,aF⟩:=ac.ns_shape;subst av
 intro U
 have aA:=az.dat 23 rfl (ac.cast (fun _ h=>(ia rfl (ia rfl h))));clear az ac
 revert U
 obtain⟨aO,aP,aw,aG⟩:=aa.l_shape;subst aw
 intro U
 have aB:=aA.dat 24 rfl (aa.cast (fun _ h=>(ia rfl (ia rfl (ia rfl h)))));clear aA aa
 refine g9 U (.c rfl (fun _ h_=>ii h_ rfl rfl U30 hH (jn) rfl (by simpa using hjl))<|.loadCR aB (i:=21) rfl rfl U51 rfl hH .nil) fun Y U=>plz (stw U aB 20 hH fun aQ aC _ =>?_)
 refine gz hK4 U (.assign rfl .nil) fun Y U=>rtd (iF (fn:=Tryz.f19) U aC (i:=20) rfl rfl rfl rfl U51 rfl hH ?_)
 exact⟨x,true,_,_,_,_,_,_,rfl,(fun _=>⟨List.mem_of_getElem? hes,hxv⟩),(fun h=>by cases h),aC.ren [(1,1),(2,2),(3,22),(4,23),(5,24)] (by decide)⟩
end
end Go.Proofs.YtkehgingagggaaaGreat.K
