/- General laws of walks. -/
import Derived.Test.YteglmahnkfgelaaGreatG11
import Derived.Test.YteglmahnkfgelaaGreatG8
import Derived.Test.YteglmahnkfgelaaGreatG10
namespace Go.Proofs.YteglmahnkfgelaaGreat.K
open Go.ChangeShapes Go.WideShapes Go.ChangeAt Go.RowKit
set_option linter.unusedVariables false
set_option linter.unusedSimpArgs false
set_option maxRecDepth 100000
set_option maxHeartbeats 4000000
set_option autoImplicit true
set_option relaxedAutoImplicit true
section
theorem ta:lR Tryz.prog 128 [.int .i64 0,.int .i64 0,.int .i64 0,.int .i64 0,.slice none 0 0]=true:=by kernel_rfl
theorem tc:lR Tryz.prog 128 [.int .i64 0,.int .i64 0,.int .i64 0,.int .i64 0,.slice none 0 0]=true:=by kernel_rfl
theorem te:lR Tryz.prog 128 [.int .i64 0,.int .i64 0,.int .i64 0,.int .i64 0,.slice none 0 0]=true:=by kernel_rfl
theorem va:lR Tryz.prog 125 [.int .i64 0,.int .i64 0,.int .i64 0,.int .i64 0,.int .i64 0,.slice none 0 0,.int .i64 0,.int .i64 0,.int .i64 0,.slice none 0 0]=true:=by kernel_rfl
theorem yX{bl sz to ne fl:Int}{hi:Bool}{pins:List Int}{ws:List (Int×List (Int×List Int))}{kd at0 ix:Int}{it:List (Int×List Int)}{ne' fl' e9:Int}{hi':Bool}{ws':List (Int×List (Int×List Int))}(h:doR bl sz to ne fl hi pins ws kd at0 ix it=(ne',hi',fl',ws',e9))(he:¬ e9=0):ne'=ne∧hi'=hi∧fl'=fl∧ws'=ws:=by
 unfold doR yU oY takeR nv wrR at h
 repeat' split at h
 all_goals (simp only [Prod.mk.injEq] at h;obtain⟨rfl,rfl,rfl,rfl,rfl⟩:=h;first|exact⟨rfl,rfl,rfl,rfl⟩|exact absurd rfl he|(exfalso;revert he;simp;done)|simp_all)
theorem wP{fl at0 n:Int}{hi:Bool}{pins pins':List Int}{e9:Int}(h:tP hi fl at0 n pins=(pins',e9))(he:¬ e9=0):pins'=pins:=by
 unfold tP at h
 split at h
 all_goals (simp only [Prod.mk.injEq] at h;obtain⟨rfl,rfl⟩:=h;first|rfl|exact absurd rfl he)
theorem tR{at0:Int}{hi:Bool}{pins pins':List Int}{e9:Int}(h:oG hi at0 pins=(pins',e9))(he:¬ e9=0):pins'=pins:=by
 unfold oG at h
 split at h
 all_goals (simp only [Prod.mk.injEq] at h;obtain⟨rfl,rfl⟩:=h;first|rfl|exact absurd rfl he)
theorem tS{l:List (Int×List Int)}{k:Nat}{xb:Int}{xd:List Int}(h:∀ j,j<k→(l.getD j i0).2.length≤40)(hes:l[k]? = some (xb,xd))(hk:xd.length≤40):∀ j,j<k+1→(l.getD j i0).2.length≤40:=fun j hj=>by
 rcases Nat.lt_or_ge j k with h1|h1
 · exact h j h1
 obtain rfl:j=k:=by omega
 rw[sI hes];exact hk
theorem vb{l:List (Int×List Int)}(h:∀ j,j<l.length→(l.getD j i0).2.length≤40):∀ e∈l,e.2.length≤40:=fun e he=>by
 obtain⟨j,hj,rfl⟩:=List.getElem_of_mem he
 have:=h j hj
 rwa [List.getD,List.getElem?_eq_getElem hj] at this
theorem b2{a b:Int}(ha:0≤a∧a≤255)(hb:0≤b∧b≤255):∀ j,j < [a,b].length→0≤[a,b].getD j 0∧[a,b].getD j 0≤255:=fun j hj=>by
 match j,hj with
 | 0,_=>exact ha
 | 1,_=>exact hb
theorem b3{a b c:Int}(ha:0≤a∧a≤255)(hb:0≤b∧b≤255)(hc:0≤c∧c≤255):∀ j,j < [a,b,c].length→0≤[a,b,c].getD j 0∧[a,b,c].getD j 0≤255:=fun j hj=>by
 match j,hj with
 | 0,_=>exact ha
 | 1,_=>exact hb
 | 2,_=>exact hc
def SmallI(l:List (Int×List Int)):Prop:=l.length≤12∧∀ e∈l,e.2.length≤40
theorem SmallI.ok{l:List (Int×List Int)}(h:SmallI l):rx l:=fun e he=>Nat.le_trans (h.2 e he) (by decide)
theorem rDo(X:Cx)(vo bl sz pe to ne fl:Int)(hi:Bool)(place pins:List Int)(ws:List (Int×List (Int×List Int)))(items:List (Int×List Int))(pp pn pw:Option Addr)(cp cn9 cw:Nat)(pi:Option Addr)(ci:Nat)(kd v1 v2 v3 v4 v5 at0 ix:Int)(q1:Option Addr)(n1 c1:Nat)(w0:World)(hk4:kd≠4)(hk5:kd≠5)(hne : -1000000000000000≤ne∧ne≤1000000000000000)(hl:ws.length≤900000)(hp:pins.length≤1000000)(hil:items.length≤1000000)(hio:rx items)(m0:MemOk X w0 [(1,.dat (.slice pp place.length cp) (.ns .i64 place)),(2,.dat (.slice pn pins.length cn9) (.ns .i64 pins)),(3,.dat (.slice pw (ws.map wrD).length cw) (.l 2 (ws.map wrD))),(4,.dat (.slice pi items.length ci) (.l 2 (items.map itD)))] w0) :
   Calls Tryz.prog 109 #[.agg #[.int .i64 vo,.int .i64 bl,.int .i64 sz,.int .i64 pe,.slice pp place.length cp,.int .i64 to,.int .i64 ne,.bool hi,.int .i64 fl,.slice pn pins.length cn9,.slice pw (ws.map wrD).length cw],.agg #[.int .i64 kd,.int .i64 v1,.int .i64 v2,.int .i64 v3,.int .i64 v4,.slice q1 n1 c1,.int .i64 v5,.int .i64 at0,.int .i64 ix,.slice pi items.length ci]] w0 fun e w' => ∃ (ne':Int) (hi':Bool) (fl':Int) (ws':List (Int×List (Int×List Int))) (e9 rl rf rn:Int) (p3':Option Addr) (d3':Nat),e=.returned (.tuple #[.agg #[.int .i64 vo,.int .i64 bl,.int .i64 sz,.int .i64 pe,.slice pp place.length cp,.int .i64 to,.int .i64 ne',.bool hi',.int .i64 fl',.slice pn pins.length cn9,.slice p3' (ws'.map wrD).length d3'],.agg #[.int .i64 e9,.int .i64 rl,.int .i64 rf,.int .i64 rn,.slice none 0 0]])∧doR bl sz to ne fl hi pins ws kd at0 ix items=(ne',hi',fl',ws',e9)∧((e9≠0∧rl=0∧rf=0∧rn=0)∨(e9=0∧rl=ws'.length∧rf=fl'∧rn=ne'))∧MemOk X w0 [(1,.dat (.slice pp place.length cp) (.ns .i64 place)),(2,.dat (.slice pn pins.length cn9) (.ns .i64 pins)),(3,.dat (.slice pw (ws.map wrD).length cw) (.l 2 (ws.map wrD))),(4,.dat (.slice pi items.length ci) (.l 2 (items.map itD))),(7,.dat (.slice p3' (ws'.map wrD).length d3') (.l 2 (ws'.map wrD)))] w':=by
 refine mR Tryz.func109 rfl Tryz.ntmps109 fun Y U =>?_
 refine zsr fun K0 hK0 =>?_
 refine plz (ly U m0 20 (cs:=[_,_,_,_,_,_,_,_,_,_,_]) rfl rfl rfl fun g1 Y w2 U m2 _ _ =>?_)
 refine plz (ly U m2 21 (cs:=[_,_,_,_,_,_,_,_,_,_]) rfl rfl rfl fun g3 Y w4 U m4 _ _ =>?_)
 refine plz (lc U m4 22 mo rfl fun g5 Y w6 U m6 _ _ =>?_)
 refine plz (lc U m6 23 mM rfl fun g7 Y w8 U m8 _ _ =>?_)
 refine znl (hK0 _ _ ?_)
 refine zsr fun K1 hK1 =>?_
 refine k9 U (.loadBR m8 (i:=20) rfl rfl U34 rfl ld (by simp) (by dsimp only [List.drop,List.take] <;> rfl)<|.loadBR m8 (i:=21) rfl rfl lx rfl lY (by simp) (by dsimp only [List.drop,List.take] <;> rfl) .nil) fun Y U =>?_
 refine plz (ecl U Tryz.func121 rfl (AB _ _ _ _ _ _ _ _ _ place pins ws items _ _ _ _ _ _ _ _ kd _ _ _ _ _ _ _ _ _ _ _ hk4 hk5 hne hl hp hil hio (m8.into [(1,1),(2,2),(3,3),(4,4)] (by decide) rfl)) ?_)
 rintro e au ⟨ne1,hi1,fl1,ws1,e1,av,aw,rfl,hR,ab⟩
 have ad:=m8.back ab [(1,1),(2,2),(3,3),(4,4),(24,7)] (by decide);clear ab m8
 have ao:=ad.oz [1,2,3,4,24,20,21,22,23]
 refine⟨_,rfl,?_⟩;intro Y U
 refine k9 U (.move rfl<|.extract rfl rfl<|.extract rfl rfl .nil) fun Y U =>?_
 refine plz (lc U ao 25 mo rfl fun ax Y ay U ap _ _ =>?_)
 refine plz (stw U ap 25 ld fun az ae _ =>?_)
 refine gz hK1 U (.assign rfl .nil) fun Y U =>?_
 refine wsk fun K2 hK2 =>?_
 replace U:=U.oz [2,4,5,6,7]
 refine la U (.move rfl<|.neq rfl rfl .nil) fun Y U =>?_
 refine bc U 15 ?_ ?_
 ·
  intro aa U;try simp only [QQ,Qax] at aa
  refine wct U ?_
  refine zsr fun K3 hK3 =>?_
  refine k9 U (.loadBR ae (i:=20) rfl rfl U34 rfl ld (by simp) (by dsimp only [List.drop,List.take] <;> rfl)<|.move rfl<|.build rfl mM ta rfl (by dsimp only [l9,List.set] <;> rfl) .nil) fun Y U =>?_
  refine plz (stw U ae 22 ld fun aA aq _ =>?_)
  refine plz (stw U aq 23 lZ fun aB ag _ =>?_)
  refine znl (hK3 _ _ ?_)
  refine rtd (tj (fn:=Tryz.f109) U ag (i:=22) (i2:=23) rfl rfl rfl rfl rfl U34 rfl ld rB rfl lZ ?_)
  revert U
  obtain⟨rfl,rfl,rfl,rfl⟩:=yX hR (by assumption)
  intro U
  have ar:=ag.dat 26 rfl (ag.rd (i:=3) rfl)
  exact⟨ne1,hi1,fl1,ws1,e1,0,0,0,_,_,rfl,hR,.inl ⟨by assumption,rfl,rfl,rfl⟩,ar.ren [(1,1),(2,2),(3,3),(4,4),(7,26)] (by decide)⟩
 intro aa U;try simp only [QQ,Qax] at aa
 refine wcf U ?_
 refine zss (hK2 _ _ ?_)
 refine wsk fun K4 hK4 =>?_
 have ah:=ae.oz [1,2,3,4,20,21,22,23,24,25]
 refine region_p 10 (B:=[(25,_)]) (ah.to i1l) ah (by kernel_rfl) (fun aC ac ak =>?_);clear ah
 refine goR ac [0,1,3,4,5,6] [0,1,4,6] 6 0 123 U (ak.to i1l) (.loadBR hh (i:=25) rfl rfl U34 rfl ld (by simp) (by dsimp only [List.drop,List.take] <;> rfl)<|.loadBR hh (i:=25) rfl rfl U34 rfl ld (by simp) (by dsimp only [List.drop,List.take] <;> rfl)<|.fa 8 rfl U34<|.lb hh 25 U2 rfl rfl rfl<|.fa 6 rfl U34<|.lb hh 25 U3 rfl rfl rfl .nil) fun Y U =>?_
 refine so 2 ?_
 refine ecb U Tryz.func37 rfl ak (me _ _ _ _ _ _ _ _ _ _ _ _ _ _ _ _ _ _) fun Y aD U ai =>?_
 refine⟨ai.to i1l,?_⟩
 refine goA ac [7] 1 127 255 U (ai.to i1l) (.build rfl mM ta rfl (by dsimp only [l9,List.set] <;> rfl) .nil) fun Y U =>?_
 refine so 8 ?_
 refine stw U ai 22 ld fun aE al _ =>?_
 refine⟨al.to i1l,?_⟩
 refine so 9 ?_
 refine stw U al 23 lZ fun aF aj _ =>?_
 refine⟨aj.to i1l,?_⟩
 refine wad ?_
 refine hK4 _ _ ?_
 refine rtd (tj (fn:=Tryz.f109) U aj (i:=22) (i2:=23) rfl rfl rfl rfl rfl U34 rfl ld rB rfl lZ ?_)
 revert U
 obtain rfl:e1=0:=by first|assumption|omega
 intro U
 exact⟨ne1,hi1,fl1,ws1,0,ws1.length,fl1,ne1,_,_,by rw[List.length_map],hR,.inr ⟨rfl,rfl,rfl,rfl⟩,aj.ren [(1,1),(2,2),(3,3),(4,4),(7,24)] (by decide)⟩
theorem AZ(X:Cx)(vo bl sz pe to ne fl:Int)(hi:Bool)(place pins:List Int)(ws:List (Int×List (Int×List Int)))(pp pn pw:Option Addr)(cp cn9 cw:Nat)(v1 v2 v3 v4 v5 at0 v6:Int)(q1:Option Addr)(n1 c1:Nat)(q2:Option Addr)(n2 c2:Nat)(w0:World)(hp:pins.length≤900000)(hsp:pins.Pairwise (·≤·))(m0:MemOk X w0 [(1,.dat (.slice pp place.length cp) (.ns .i64 place)),(2,.dat (.slice pn pins.length cn9) (.ns .i64 pins)),(3,.dat (.slice pw (ws.map wrD).length cw) (.l 2 (ws.map wrD)))] w0) :
   Calls Tryz.prog 109 #[.agg #[.int .i64 vo,.int .i64 bl,.int .i64 sz,.int .i64 pe,.slice pp place.length cp,.int .i64 to,.int .i64 ne,.bool hi,.int .i64 fl,.slice pn pins.length cn9,.slice pw (ws.map wrD).length cw],.agg #[.int .i64 4,.int .i64 v1,.int .i64 v2,.int .i64 v3,.int .i64 v4,.slice q1 n1 c1,.int .i64 v5,.int .i64 at0,.int .i64 v6,.slice q2 n2 c2]] w0 fun e w' => ∃ (pins':List Int) (e9 rl rf rn:Int) (p2':Option Addr) (d2':Nat),e=.returned (.tuple #[.agg #[.int .i64 vo,.int .i64 bl,.int .i64 sz,.int .i64 pe,.slice pp place.length cp,.int .i64 to,.int .i64 ne,.bool hi,.int .i64 fl,.slice p2' pins'.length d2',.slice pw (ws.map wrD).length cw],.agg #[.int .i64 e9,.int .i64 rl,.int .i64 rf,.int .i64 rn,.slice none 0 0]])∧tP hi fl at0 ws.length pins=(pins',e9)∧((e9≠0∧rl=0∧rf=0∧rn=0)∨(e9=0∧rl=ws.length∧rf=fl∧rn=ne))∧MemOk X w0 [(1,.dat (.slice pp place.length cp) (.ns .i64 place)),(2,.dat (.slice pn pins.length cn9) (.ns .i64 pins)),(3,.dat (.slice pw (ws.map wrD).length cw) (.l 2 (ws.map wrD))),(6,.dat (.slice p2' pins'.length d2') (.ns .i64 pins'))] w':=by
 refine mR Tryz.func109 rfl Tryz.ntmps109 fun Y U =>?_
 refine zsr fun K0 hK0 =>?_
 refine plz (ly U m0 20 (cs:=[_,_,_,_,_,_,_,_,_,_,_]) rfl rfl rfl fun g1 Y w2 U m2 _ _ =>?_)
 refine plz (ly U m2 21 (cs:=[_,_,_,_,_,_,_,_,_,_]) rfl rfl rfl fun g3 Y w4 U m4 _ _ =>?_)
 refine plz (lc U m4 22 mo rfl fun g5 Y w6 U m6 _ _ =>?_)
 refine plz (lc U m6 23 mM rfl fun g7 Y w8 U m8 _ _ =>?_)
 refine znl (hK0 _ _ ?_)
 refine zsr fun K1 hK1 =>?_
 refine k9 U (.loadBR m8 (i:=20) rfl rfl U34 rfl ld (by simp) (by dsimp only [List.drop,List.take] <;> rfl)<|.loadBR m8 (i:=21) rfl rfl lx rfl lY (by simp) (by dsimp only [List.drop,List.take] <;> rfl) .nil) fun Y U =>?_
 refine plz (ecl U Tryz.func121 rfl (zT _ _ _ _ _ _ _ _ _ place pins ws _ _ _ _ _ _ _ _ _ _ _ _ _ _ _ _ _ _ _ _ hp hsp (m8.into [(1,1),(2,2),(3,3)] (by decide) rfl)) ?_)
 rintro e au ⟨pins1,e1,av,aw,rfl,hR,ab⟩
 have ad:=m8.back ab [(1,1),(2,2),(3,3),(24,6)] (by decide);clear ab m8
 have ao:=ad.oz [1,2,3,24,20,21,22,23]
 refine⟨_,rfl,?_⟩;intro Y U
 refine k9 U (.move rfl<|.extract rfl rfl<|.extract rfl rfl .nil) fun Y U =>?_
 refine plz (lc U ao 25 mo rfl fun ax Y ay U ap _ _ =>?_)
 refine plz (stw U ap 25 ld fun az ae _ =>?_)
 refine gz hK1 U (.assign rfl .nil) fun Y U =>?_
 refine wsk fun K2 hK2 =>?_
 replace U:=U.oz [2,4,5,6,7]
 refine la U (.move rfl<|.neq rfl rfl .nil) fun Y U =>?_
 refine bc U 15 ?_ ?_
 ·
  intro aa U;try simp only [QQ,Qax] at aa
  refine wct U ?_
  refine zsr fun K3 hK3 =>?_
  refine k9 U (.loadBR ae (i:=20) rfl rfl U34 rfl ld (by simp) (by dsimp only [List.drop,List.take] <;> rfl)<|.move rfl<|.build rfl mM tc rfl (by dsimp only [l9,List.set] <;> rfl) .nil) fun Y U =>?_
  refine plz (stw U ae 22 ld fun aA aq _ =>?_)
  refine plz (stw U aq 23 lZ fun aB ag _ =>?_)
  refine znl (hK3 _ _ ?_)
  refine rtd (tj (fn:=Tryz.f109) U ag (i:=22) (i2:=23) rfl rfl rfl rfl rfl U34 rfl ld rB rfl lZ ?_)
  revert U
  obtain rfl:=wP hR (by assumption)
  intro U
  have ar:=ag.dat 26 rfl (ag.rd (i:=2) rfl)
  exact⟨pins1,e1,0,0,0,_,_,rfl,hR,.inl ⟨by assumption,rfl,rfl,rfl⟩,ar.ren [(1,1),(2,2),(3,3),(6,26)] (by decide)⟩
 intro aa U;try simp only [QQ,Qax] at aa
 refine wcf U ?_
 refine zss (hK2 _ _ ?_)
 refine wsk fun K4 hK4 =>?_
 have ah:=ae.oz [1,2,3,20,21,22,23,24,25]
 refine region_p 10 (B:=[(25,_)]) (ah.to i1l) ah (by kernel_rfl) (fun aC ac ak =>?_);clear ah
 refine goR ac [0,1,3,4,5,6] [0,1,4,6] 6 0 123 U (ak.to i1l) (.loadBR hh (i:=25) rfl rfl U34 rfl ld (by simp) (by dsimp only [List.drop,List.take] <;> rfl)<|.loadBR hh (i:=25) rfl rfl U34 rfl ld (by simp) (by dsimp only [List.drop,List.take] <;> rfl)<|.fa 8 rfl U34<|.lb hh 25 U2 rfl rfl rfl<|.fa 6 rfl U34<|.lb hh 25 U3 rfl rfl rfl .nil) fun Y U =>?_
 refine so 2 ?_
 refine ecb U Tryz.func37 rfl ak (me _ _ _ _ _ _ _ _ _ _ _ _ _ _ _ _ _ _) fun Y aD U ai =>?_
 refine⟨ai.to i1l,?_⟩
 refine goA ac [7] 1 127 255 U (ai.to i1l) (.build rfl mM tc rfl (by dsimp only [l9,List.set] <;> rfl) .nil) fun Y U =>?_
 refine so 8 ?_
 refine stw U ai 22 ld fun aE al _ =>?_
 refine⟨al.to i1l,?_⟩
 refine so 9 ?_
 refine stw U al 23 lZ fun aF aj _ =>?_
 refine⟨aj.to i1l,?_⟩
 refine wad ?_
 refine hK4 _ _ ?_
 refine rtd (tj (fn:=Tryz.f109) U aj (i:=22) (i2:=23) rfl rfl rfl rfl rfl U34 rfl ld rB rfl lZ ?_)
 revert U
 obtain rfl:e1=0:=by first|assumption|omega
 intro U
 exact⟨pins1,0,ws.length,fl,ne,_,_,by rw[List.length_map],hR,.inr ⟨rfl,rfl,rfl,rfl⟩,aj.ren [(1,1),(2,2),(3,3),(6,24)] (by decide)⟩
theorem A0(X:Cx)(vo bl sz pe to ne fl:Int)(hi:Bool)(place pins:List Int)(ws:List (Int×List (Int×List Int)))(pp pn pw:Option Addr)(cp cn9 cw:Nat)(v1 v2 v3 v4 v5 at0 v6:Int)(q1:Option Addr)(n1 c1:Nat)(q2:Option Addr)(n2 c2:Nat)(w0:World)(hp:pins.length≤900000)(m0:MemOk X w0 [(1,.dat (.slice pp place.length cp) (.ns .i64 place)),(2,.dat (.slice pn pins.length cn9) (.ns .i64 pins)),(3,.dat (.slice pw (ws.map wrD).length cw) (.l 2 (ws.map wrD)))] w0) :
   Calls Tryz.prog 109 #[.agg #[.int .i64 vo,.int .i64 bl,.int .i64 sz,.int .i64 pe,.slice pp place.length cp,.int .i64 to,.int .i64 ne,.bool hi,.int .i64 fl,.slice pn pins.length cn9,.slice pw (ws.map wrD).length cw],.agg #[.int .i64 5,.int .i64 v1,.int .i64 v2,.int .i64 v3,.int .i64 v4,.slice q1 n1 c1,.int .i64 v5,.int .i64 at0,.int .i64 v6,.slice q2 n2 c2]] w0 fun e w' => ∃ (pins':List Int) (e9 rl rf rn:Int) (p2':Option Addr) (d2':Nat),e=.returned (.tuple #[.agg #[.int .i64 vo,.int .i64 bl,.int .i64 sz,.int .i64 pe,.slice pp place.length cp,.int .i64 to,.int .i64 ne,.bool hi,.int .i64 fl,.slice p2' pins'.length d2',.slice pw (ws.map wrD).length cw],.agg #[.int .i64 e9,.int .i64 rl,.int .i64 rf,.int .i64 rn,.slice none 0 0]])∧oG hi at0 pins=(pins',e9)∧((e9≠0∧rl=0∧rf=0∧rn=0)∨(e9=0∧rl=ws.length∧rf=fl∧rn=ne))∧MemOk X w0 [(1,.dat (.slice pp place.length cp) (.ns .i64 place)),(2,.dat (.slice pn pins.length cn9) (.ns .i64 pins)),(3,.dat (.slice pw (ws.map wrD).length cw) (.l 2 (ws.map wrD))),(6,.dat (.slice p2' pins'.length d2') (.ns .i64 pins'))] w':=by
 refine mR Tryz.func109 rfl Tryz.ntmps109 fun Y U =>?_
 refine zsr fun K0 hK0 =>?_
 refine plz (ly U m0 20 (cs:=[_,_,_,_,_,_,_,_,_,_,_]) rfl rfl rfl fun g1 Y w2 U m2 _ _ =>?_)
 refine plz (ly U m2 21 (cs:=[_,_,_,_,_,_,_,_,_,_]) rfl rfl rfl fun g3 Y w4 U m4 _ _ =>?_)
 refine plz (lc U m4 22 mo rfl fun g5 Y w6 U m6 _ _ =>?_)
 refine plz (lc U m6 23 mM rfl fun g7 Y w8 U m8 _ _ =>?_)
 refine znl (hK0 _ _ ?_)
 refine zsr fun K1 hK1 =>?_
 refine k9 U (.loadBR m8 (i:=20) rfl rfl U34 rfl ld (by simp) (by dsimp only [List.drop,List.take] <;> rfl)<|.loadBR m8 (i:=21) rfl rfl lx rfl lY (by simp) (by dsimp only [List.drop,List.take] <;> rfl) .nil) fun Y U =>?_
 refine plz (ecl U Tryz.func121 rfl (zU _ _ _ _ _ _ _ _ _ place pins ws _ _ _ _ _ _ _ _ _ _ _ _ _ _ _ _ _ _ _ _ hp (m8.into [(1,1),(2,2),(3,3)] (by decide) rfl)) ?_)
 rintro e au ⟨pins1,e1,av,aw,rfl,hR,ab⟩
 have ad:=m8.back ab [(1,1),(2,2),(3,3),(24,6)] (by decide);clear ab m8
 have ao:=ad.oz [1,2,3,24,20,21,22,23]
 refine⟨_,rfl,?_⟩;intro Y U
 refine k9 U (.move rfl<|.extract rfl rfl<|.extract rfl rfl .nil) fun Y U =>?_
 refine plz (lc U ao 25 mo rfl fun ax Y ay U ap _ _ =>?_)
 refine plz (stw U ap 25 ld fun az ae _ =>?_)
 refine gz hK1 U (.assign rfl .nil) fun Y U =>?_
 refine wsk fun K2 hK2 =>?_
 replace U:=U.oz [2,4,5,6,7]
 refine la U (.move rfl<|.neq rfl rfl .nil) fun Y U =>?_
 refine bc U 15 ?_ ?_
 ·
  intro aa U;try simp only [QQ,Qax] at aa
  refine wct U ?_
  refine zsr fun K3 hK3 =>?_
  refine k9 U (.loadBR ae (i:=20) rfl rfl U34 rfl ld (by simp) (by dsimp only [List.drop,List.take] <;> rfl)<|.move rfl<|.build rfl mM te rfl (by dsimp only [l9,List.set] <;> rfl) .nil) fun Y U =>?_
  refine plz (stw U ae 22 ld fun aA aq _ =>?_)
  refine plz (stw U aq 23 lZ fun aB ag _ =>?_)
  refine znl (hK3 _ _ ?_)
  refine rtd (tj (fn:=Tryz.f109) U ag (i:=22) (i2:=23) rfl rfl rfl rfl rfl U34 rfl ld rB rfl lZ ?_)
  revert U
  obtain rfl:=tR hR (by assumption)
  intro U
  have ar:=ag.dat 26 rfl (ag.rd (i:=2) rfl)
  exact⟨pins1,e1,0,0,0,_,_,rfl,hR,.inl ⟨by assumption,rfl,rfl,rfl⟩,ar.ren [(1,1),(2,2),(3,3),(6,26)] (by decide)⟩
 intro aa U;try simp only [QQ,Qax] at aa
 refine wcf U ?_
 refine zss (hK2 _ _ ?_)
 refine wsk fun K4 hK4 =>?_
 have ah:=ae.oz [1,2,3,20,21,22,23,24,25]
 refine region_p 10 (B:=[(25,_)]) (ah.to i1l) ah (by kernel_rfl) (fun aC ac ak =>?_);clear ah
 refine goR ac [0,1,3,4,5,6] [0,1,4,6] 6 0 123 U (ak.to i1l) (.loadBR hh (i:=25) rfl rfl U34 rfl ld (by simp) (by dsimp only [List.drop,List.take] <;> rfl)<|.loadBR hh (i:=25) rfl rfl U34 rfl ld (by simp) (by dsimp only [List.drop,List.take] <;> rfl)<|.fa 8 rfl U34<|.lb hh 25 U2 rfl rfl rfl<|.fa 6 rfl U34<|.lb hh 25 U3 rfl rfl rfl .nil) fun Y U =>?_
 refine so 2 ?_
 refine ecb U Tryz.func37 rfl ak (me _ _ _ _ _ _ _ _ _ _ _ _ _ _ _ _ _ _) fun Y aD U ai =>?_
 refine⟨ai.to i1l,?_⟩
 refine goA ac [7] 1 127 255 U (ai.to i1l) (.build rfl mM te rfl (by dsimp only [l9,List.set] <;> rfl) .nil) fun Y U =>?_
 refine so 8 ?_
 refine stw U ai 22 ld fun aE al _ =>?_
 refine⟨al.to i1l,?_⟩
 refine so 9 ?_
 refine stw U al 23 lZ fun aF aj _ =>?_
 refine⟨aj.to i1l,?_⟩
 refine wad ?_
 refine hK4 _ _ ?_
 refine rtd (tj (fn:=Tryz.f109) U aj (i:=22) (i2:=23) rfl rfl rfl rfl rfl U34 rfl ld rB rfl lZ ?_)
 revert U
 obtain rfl:e1=0:=by first|assumption|omega
 intro U
 exact⟨pins1,0,ws.length,fl,ne,_,_,by rw[List.length_map],hR,.inr ⟨rfl,rfl,rfl,rfl⟩,aj.ren [(1,1),(2,2),(3,3),(6,24)] (by decide)⟩
theorem tB(l:List (Int×List Int))(p:Option Addr)(nn c:Nat)(w0:World)(h0:Rd (fun _=>True) w0 (.slice p nn c) (.l 2 (l.map itD)))(hl:l.length≤140737488351232) :
   Calls Tryz.prog 8 #[.slice p nn c] w0 fun e w' => ∃ b:Bool,e=.returned (.bool b)∧(b=true→SmallI l)∧Below w0.heap.size w0 w':=by
 obtain rfl:nn=l.length:=by obtain⟨pq,cq,hv,_⟩:=h0.l_shape;injection hv with _ e2 _;rw[List.length_map] at e2;exact e2
 refine mp Tryz.func8 rfl Tryz.ntmps8 fun Y U =>?_
 have m0:=MemOk.start (fun _=>False) w0
 refine la U (.assign rfl .nil) fun Y U =>?_
 refine wsk fun K0 hK0 =>?_
 refine la U (.move rfl<|.len rfl U28<|.gtr rfl rfl .nil) fun Y U =>?_
 refine bc U 6 ?_ ?_
 ·
  intro hb5 U;try simp only [QQ,Qax] at hb5
  refine wct U ?_
  refine la U (.assign rfl .nil) fun Y U =>?_
  refine rt1 U ?_
  exact⟨false,rfl,(fun h=>by cases h),m0.below⟩
 intro hb5 U;try simp only [QQ,Qax] at hb5
 refine wcf U ?_
 refine zss (hK0 _ _ ?_)
 refine wsk fun K1 hK1 =>?_
 refine la U (.assign rfl .nil) fun Y U =>?_
 refine wp_block ?_
 refine wp_loop_ghost (fun g a w => ∃ k:Nat,k≤l.length∧g=l.length - k∧(∀ j,j<k→(l.getD j i0).2.length≤40)∧Has 20 [(0,.slice p l.length c),(3,.int .i64 k)] a∧MemOk (cn w0) w0 [] w) (l.length) ?_ ?_
 · exact⟨0,Nat.zero_le _,rfl,(fun j hj=>by omega),U.only [0,3],m0.only []⟩
 clear U m0
 rintro g Y w8 ⟨k,hkl,hg,hall,U,m8⟩
 refine wsk fun K2 hK2 =>?_
 refine la U (.move rfl<|.move rfl<|.len rfl U28<|.lss rfl rfl .nil) fun Y U =>?_
 refine bc U 10 ?_ ?_
 ·
  intro ab U;try simp only [QQ,Qax] at ab
  have hk:k<l.length:=by omega
  obtain⟨⟨xb,xd⟩,hes⟩:∃ e,l[k]? = some e:=⟨_,List.getElem?_eq_getElem hk⟩
  refine wct U ?_
  refine zss (hK2 _ _ ?_)
  refine wsk fun K3 hK3 =>?_
  refine wp_block ?_
  refine zsr fun K4 hK4 =>?_
  refine k9 U (.move rfl<|.move rfl .nil) fun Y U =>?_
  obtain⟨aj,ak,al,ag,ao,ah,ae⟩:=h0.extA (k) (r:=[.v (.int .i64 xb),.ns .u8 xd]) (lm hes)
  revert U
  cases ag
  rcases ah with _|⟨aa,_|⟨ac,_|_⟩⟩
  obtain rfl:=aa.v_out
  clear aa
  obtain⟨aq,ar,ai,ap⟩:=ac.ns_shape;subst ai
  intro U
  refine gz hK4 U (.c rfl (fun _ h_=>li h_ rfl rfl U28 lX (k) rfl hk)<|.fieldAddrQ 1 rfl U78 rfl (s:=0) (by kernel_rfl) rfl<|.loadAt1 (ae m8 rfl) (q:=1) rfl rfl rfl U22 rfl<|.len rfl U22<|.gtr rfl rfl<|.nil) fun Y U =>?_
  refine bc U 19 ?_ ?_
  ·
   intro ad U;try simp only [QQ,Qax] at ad
   refine wct U ?_
   replace U:=U.oz [0,3]
   refine la U (.assign rfl .nil) fun Y U =>?_
   refine rt1 U ?_
   exact⟨false,rfl,(fun h=>by cases h),m8.below⟩
  intro ad U;try simp only [QQ,Qax] at ad
  refine wcf U ?_
  refine zss (hK3 _ _ ?_)
  replace U:=U.oz [0,3]
  refine wp_region_lit ?_
  refine k9 U (.move rfl<|.inc (k+1)<|.assign rfl .nil) fun Y U =>?_
  refine wpList_nil ?_
  show ∃ n',n'<_∧_
  exact⟨l.length - (k+1),by omega,k+1,by omega,rfl,tS hall hes (by omega),U.only [0,3],m8.only []⟩
 intro ab U;try simp only [QQ,Qax] at ab
 have hkl9:k=l.length:=by omega
 refine wcf U ?_
 refine wp_exit ?_
 refine hK1 _ _ ?_
 refine la U (.assign rfl .nil) fun Y U =>?_
 refine rt1 U ?_
 exact⟨true,rfl,(fun _=>⟨by omega,vb (by rw[hkl9] at hall;exact hall)⟩),m8.below⟩
theorem wQ(vo bl:Int)(z:Nat)(pe to ne fl:Int)(hi:Bool)(pp pn pw:Option Addr)(np cp nn9 cn9 nw cw:Nat)(wh xa xb xc:Int)(w0:World)(hz:z≤1000)(hnw:nw≤1000000)(hne : -1000000000000000≤ne∧ne≤1000000000000000)(hw9:0≤wh∧wh≤255)(ha9:0≤xa∧xa≤255)(hb9:0≤xb∧xb≤255)(hc9:0≤xc∧xc≤255) :
   Calls Tryz.prog 74 #[.agg #[.int .i64 vo,.int .i64 bl,.int .i64 (z:Int),.int .i64 pe,.slice pp np cp,.int .i64 to,.int .i64 ne,.bool hi,.int .i64 fl,.slice pn nn9 cn9,.slice pw nw cw],.bool true,.int .u8 wh,.int .u8 xa,.int .u8 xb,.int .u8 xc] w0 fun e w' => ∃ (kd bl2 sz2 pe2 to2 at0 ix vo2:Int) (it:List (Int×List Int)) (pi:Option Addr) (ci:Nat) (dd:Unit),e=.returned (.agg #[.int .i64 kd,.int .i64 vo2,.int .i64 bl2,.int .i64 sz2,.int .i64 pe2,.slice none 0 0,.int .i64 to2,.int .i64 at0,.int .i64 ix,.slice pi it.length ci])∧(2≤kd∧kd≤8)∧it.length≤8∧ItsB it∧Rd (New w0) w' (.slice pi it.length ci) (.l 2 (it.map itD))∧Below w0.heap.size w0 w':=by
 refine AL Tryz.func74 rfl Tryz.ntmps74 fun Y U =>?_
 have m0:=MemOk.start (fun _=>False) w0
 refine zsr fun K0 hK0 =>?_
 refine plz (ly U m0 20 (cs:=[_,_,_,_,_,_,_,_,_,_,_]) rfl rfl rfl fun g1 Y w2 U m2 _ _ =>?_)
 refine plz (lc U m2 21 ox rfl fun g3 Y w4 U m4 _ _ =>?_)
 refine znl (hK0 _ _ ?_)
 refine wsk fun K1 hK1 =>?_
 refine la U (.move rfl<|.not rfl .nil) fun Y U =>?_
 refine wcf U ?_
 refine zss (hK1 _ _ ?_)
 refine zsr fun K2 hK2 =>?_
 refine k9 U (.fa 0 rfl U34<|.lb m4 20 U3 rfl rfl rfl<|.build rfl ox va rfl (by dsimp only [l9,List.set] <;> rfl) .nil) fun Y U =>?_
 refine plz (lc U m4 22 ox rfl fun cE Y cF U bI _ _ =>?_)
 refine plz (stw U bI 22 lY fun cG aa _ =>?_)
 refine znl (hK2 _ _ ?_)
 refine wsk fun K3 hK3 =>?_
 have hC3:∀ (a:Act) (w:World),(∃ (kd at0 ix:Int) (it:List (Int×List Int)) (pi:Option Addr) (ci:Nat) (B6 a5 a6:Nat),(2≤kd∧kd≤8)∧it.length≤8∧ItsB it∧Has 131 [(2,.int .u8 wh),(3,.int .u8 xa),(4,.int .u8 xb),(5,.int .u8 xc),(6,.pointer (some ⟨B6,0,none⟩)),(12,.pointer (some ⟨a5,0,none⟩)),(14,.pointer (some ⟨a6,0,none⟩))] a∧MemOk (cn w0) w0 [(6,.box B6 34 [.int .i64 vo,.int .i64 bl,.int .i64 (z:Int),.int .i64 pe,.slice pp np cp,.int .i64 to,.int .i64 ne,.bool hi,.int .i64 fl,.slice pn nn9 cn9,.slice pw nw cw]),(12,.box a5 125 [.int .i64 0,.int .i64 0,.int .i64 0,.int .i64 0,.int .i64 0,.slice none 0 0,.int .i64 0,.int .i64 0,.int .i64 0,.slice none 0 0]),(14,.box a6 125 [.int .i64 kd,.int .i64 vo,.int .i64 0,.int .i64 0,.int .i64 0,.slice none 0 0,.int .i64 0,.int .i64 at0,.int .i64 ix,.slice pi it.length ci]),(9,.dat (.slice pi it.length ci) (.l 2 (it.map itD)))] w)→K3 a w:=by
   clear U aa
   rintro Y cH ⟨kd,at0,ix,it,pi,ci,B6,a5,a6,hkd,hit8,hitb,U,aH⟩
   refine hK3 _ _ ?_
   refine wsk fun K4 hK4 =>?_
   refine zsr fun K5 hK5 =>?_
   refine k9 U (.fa 7 rfl U34<|.lb aH 6 U4 rfl rfl rfl<|.move rfl .nil) fun Y U =>?_
   refine bc U 111 ?_ ?_
   ·
    intro ap U;try simp only [QQ,Qax] at ap
    refine gz hK5 U (.moveZ rfl<|.remZ rfl rfl (by decide) rfl<|.lssZ rfl rfl<|.pickT rfl rfl<|.nil) fun Y U =>?_
    refine bc U 115 ?_ ?_
    ·
     intro aq U;try simp only [QQ,Qax] at aq
     refine wct U ?_
     replace U:=U.oz [3,4,5,6,12,14]
     have a7:=aH.oz [6,9,12,14]
     refine region_p 15 (B:=[(6,_)]) (a7.to i1l) a7 (by kernel_rfl) (fun cI aI bE =>?_);clear a7
     refine goR aI [0,1,2,3,4,5,6,7,8,9,10] [1,3,5,7] 11 0 2047 U (bE.to i1l) (.fa 0 rfl U34<|.lb hh 6 U3 rfl rfl rfl<|.fa 6 rfl U34<|.lb hh 6 U3 rfl rfl rfl<|.fa 1 rfl U34<|.lb hh 6 U3 rfl rfl rfl<|.fa 2 rfl U34<|.lb hh 6 U3 rfl rfl rfl<|.move rfl<|.move rfl<|.move rfl .nil) fun Y U =>?_
     refine so 11 ?_
     refine lj U bE 100 (k:=.u8) rfl rfl U22 lJ rfl rfl rfl rfl fun cJ Y cK U bF =>?_
     refine⟨bF.to i1l,?_⟩
     have bG:=bF.freezeN 100 rfl
     refine so 12 ?_
     refine ecl U Tryz.func107 rfl (na bl z [xa,xb,xc] _ _ _ ((bG.rd (i:=100) rfl).any) (by simp) (b3 ha9 hb9 hc9) (by omega)) ?_
     rintro e cL ⟨it,cM,cN,rfl,hit8,hpre9,hitb,hit1,a8,a9⟩
     have ba:=bG.callF 101 rfl a9 a8
     refine⟨_,rfl,?_⟩;intro Y U
     refine⟨ba.to i1l,?_⟩
     refine goA aI [13] 1 8191 16383 U (ba.to i1l) (.build rfl ox va rfl (by dsimp only [l9,List.set] <;> rfl) .nil) fun Y U =>?_
     refine so 14 ?_
     refine stw U ba 14 lY fun cO bb _ =>?_
     refine⟨bb.to i1l,?_⟩
     refine wad ?_
     refine hK4 _ _ ?_
     replace U:=U.oz [12,14,125]
     refine zsr fun K6 hK6 =>?_
     refine k9 U (.loadBR bb (i:=14) rfl rfl lx rfl lY (by simp) (by dsimp only [List.drop,List.take] <;> rfl) .nil) fun Y U =>?_
     refine plz (stw U bb 12 lY fun cP bd _ =>?_)
     refine znl (hK6 _ _ ?_)
     refine rtd (mK (fn:=Tryz.f74) U bd (i:=12) rfl rfl rfl lx rfl lY ?_)
     exact⟨_,_,_,_,_,_,_,_,_,_,_,(),rfl,by first|assumption|decide,by first|assumption,by first|assumption,bd.outF (i:=101) rfl,bd.below⟩
    intro aq U;try simp only [QQ,Qax] at aq
    refine wcf U ?_
    refine zss (hK4 _ _ ?_)
    replace U:=U.oz [12,14]
    refine zsr fun K7 hK7 =>?_
    refine k9 U (.loadBR aH (i:=14) rfl rfl lx rfl lY (by simp) (by dsimp only [List.drop,List.take] <;> rfl) .nil) fun Y U =>?_
    refine plz (stw U aH 12 lY fun cQ be _ =>?_)
    refine znl (hK7 _ _ ?_)
    refine rtd (mK (fn:=Tryz.f74) U be (i:=12) rfl rfl rfl lx rfl lY ?_)
    exact⟨_,_,_,_,_,_,_,_,_,_,_,(),rfl,by first|assumption|decide,by first|assumption,by first|assumption,be.outF (i:=9) rfl,be.below⟩
   intro ap U;try simp only [QQ,Qax] at ap
   refine gz hK5 U (.sk<|.sk<|.sk<|.pickF rfl rfl<|.nil) fun Y U =>?_
   refine wcf U ?_
   refine zss (hK4 _ _ ?_)
   replace U:=U.oz [12,14]
   refine zsr fun K8 hK8 =>?_
   refine k9 U (.loadBR aH (i:=14) rfl rfl lx rfl lY (by simp) (by dsimp only [List.drop,List.take] <;> rfl) .nil) fun Y U =>?_
   refine plz (stw U aH 12 lY fun cR bf _ =>?_)
   refine znl (hK8 _ _ ?_)
   refine rtd (mK (fn:=Tryz.f74) U bf (i:=12) rfl rfl rfl lx rfl lY ?_)
   exact⟨_,_,_,_,_,_,_,_,_,_,_,(),rfl,by first|assumption|decide,by first|assumption,by first|assumption,bf.outF (i:=9) rfl,bf.below⟩
 replace U:=U.oz [2,3,4,5,6,12,14]
 refine la U (.move rfl<|.rem rfl rfl (by decide) rfl .nil) fun Y U =>?_
 refine wp_block ?_
 refine wsk fun K9 hK9 =>?_
 refine la U (.eql rfl rfl<|.assign rfl .nil) fun Y U =>?_
 refine bc U 39 ?_ ?_
 ·
  intro ar U;try simp only [QQ,Qax] at ar
  refine wct U ?_
  refine zss (hK9 _ _ ?_)
  refine wct U ?_
  refine wp_region_lit ?_
  refine k9 U (.fa 1 rfl U34<|.lb aa 20 U3 rfl rfl rfl<|.fa 2 rfl U34<|.lb aa 20 U3 rfl rfl rfl<|.move rfl<|.move rfl<|.move rfl .nil) fun Y U =>?_
  refine plz (lj U aa 23 (k:=.u8) rfl rfl U22 lJ rfl rfl rfl rfl fun cS Y cT U bJ =>?_)
  have bH:=bJ.freezeN 23 rfl
  refine plz (ecl U Tryz.func107 rfl (na bl z [xa,xb,xc] _ _ _ ((bH.rd (i:=23) rfl).any) (by simp) (b3 ha9 hb9 hc9) (by omega)) ?_)
  rintro e cU ⟨it,cV,cW,rfl,hit8,hpre9,hitb,hit1,bg,bh⟩
  have bK:=bH.callF 24 rfl bh bg
  refine⟨_,rfl,?_⟩;intro Y U
  refine k9 U (.fieldAddr (off:=0) rfl lx rfl (s:=0) (by kernel_rfl) rfl .nil) fun Y U =>?_
  refine plz (st1 U bK 22 ma fun cX bL _ =>?_)
  refine k9 U (.fieldAddr (off:=9) rfl lx rfl (s:=0) (by kernel_rfl) rfl .nil) fun Y U =>?_
  refine plz (st1 U bL 22 rK fun cY bM _ =>?_)
  refine wpList_nil ?_
  show K3 _ _
  exact hC3 _ _ ⟨_,_,_,it,_,_,_,_,_,by decide,hit8,hitb,U.only [2,3,4,5,6,12,14],bM.ren [(6,20),(12,21),(14,22),(9,24)] (by decide)⟩
 intro ar U;try simp only [QQ,Qax] at ar
 refine wcf U ?_
 refine la U (.eql rfl rfl<|.assign rfl .nil) fun Y U =>?_
 refine bc U 39 ?_ ?_
 ·
  intro au U;try simp only [QQ,Qax] at au
  refine wct U ?_
  refine zss (hK9 _ _ ?_)
  refine wct U ?_
  refine wp_region_lit ?_
  refine k9 U (.fa 1 rfl U34<|.lb aa 20 U3 rfl rfl rfl<|.fa 2 rfl U34<|.lb aa 20 U3 rfl rfl rfl<|.move rfl<|.move rfl<|.move rfl .nil) fun Y U =>?_
  refine plz (lj U aa 23 (k:=.u8) rfl rfl U22 lJ rfl rfl rfl rfl fun bN Y bO U bi =>?_)
  have aJ:=bi.freezeN 23 rfl
  refine plz (ecl U Tryz.func107 rfl (na bl z [xa,xb,xc] _ _ _ ((aJ.rd (i:=23) rfl).any) (by simp) (b3 ha9 hb9 hc9) (by omega)) ?_)
  rintro e bP ⟨it,bQ,bR,rfl,hit8,hpre9,hitb,hit1,aK,aL⟩
  have bj:=aJ.callF 24 rfl aL aK
  refine⟨_,rfl,?_⟩;intro Y U
  refine k9 U (.fieldAddr (off:=0) rfl lx rfl (s:=0) (by kernel_rfl) rfl .nil) fun Y U =>?_
  refine plz (st1 U bj 22 ma fun bS bk _ =>?_)
  refine k9 U (.fieldAddr (off:=9) rfl lx rfl (s:=0) (by kernel_rfl) rfl .nil) fun Y U =>?_
  refine plz (st1 U bk 22 rK fun bT bm _ =>?_)
  refine wpList_nil ?_
  show K3 _ _
  exact hC3 _ _ ⟨_,_,_,it,_,_,_,_,_,by decide,hit8,hitb,U.only [2,3,4,5,6,12,14],bm.ren [(6,20),(12,21),(14,22),(9,24)] (by decide)⟩
 intro au U;try simp only [QQ,Qax] at au
 refine wcf U ?_
 refine la U (.eql rfl rfl<|.assign rfl .nil) fun Y U =>?_
 refine bc U 39 ?_ ?_
 ·
  intro ab U;try simp only [QQ,Qax] at ab
  refine wct U ?_
  refine zss (hK9 _ _ ?_)
  refine wct U ?_
  refine wp_region_lit ?_
  refine k9 U (.fa 1 rfl U34<|.lb aa 20 U3 rfl rfl rfl<|.fa 2 rfl U34<|.lb aa 20 U3 rfl rfl rfl<|.move rfl<|.move rfl<|.move rfl .nil) fun Y U =>?_
  refine plz (lj U aa 23 (k:=.u8) rfl rfl U22 lJ rfl rfl rfl rfl fun bU Y bV U bn =>?_)
  have aM:=bn.freezeN 23 rfl
  refine plz (ecl U Tryz.func107 rfl (na bl z [xa,xb,xc] _ _ _ ((aM.rd (i:=23) rfl).any) (by simp) (b3 ha9 hb9 hc9) (by omega)) ?_)
  rintro e bW ⟨it,bX,bY,rfl,hit8,hpre9,hitb,hit1,aN,aO⟩
  have bo:=aM.callF 24 rfl aO aN
  refine⟨_,rfl,?_⟩;intro Y U
  refine k9 U (.fieldAddr (off:=0) rfl lx rfl (s:=0) (by kernel_rfl) rfl .nil) fun Y U =>?_
  refine plz (st1 U bo 22 ma fun bZ bp _ =>?_)
  refine k9 U (.fieldAddr (off:=9) rfl lx rfl (s:=0) (by kernel_rfl) rfl .nil) fun Y U =>?_
  refine plz (st1 U bp 22 rK fun b0 bq _ =>?_)
  refine wpList_nil ?_
  show K3 _ _
  exact hC3 _ _ ⟨_,_,_,it,_,_,_,_,_,by decide,hit8,hitb,U.only [2,3,4,5,6,12,14],bq.ren [(6,20),(12,21),(14,22),(9,24)] (by decide)⟩
 intro ab U;try simp only [QQ,Qax] at ab
 refine wcf U ?_
 refine wp_region_lit ?_
 refine gz hK9 U (.eql rfl rfl<|.assign rfl<|.nil) fun Y U =>?_
 refine bc U 39 ?_ ?_
 ·
  intro ac U;try simp only [QQ,Qax] at ac
  refine wct U ?_
  replace U:=U.oz [2,3,4,5,6,12,14,37]
  refine wp_region_lit ?_
  refine k9 U (.fa 1 rfl U34<|.lb aa 20 U3 rfl rfl rfl<|.fa 2 rfl U34<|.lb aa 20 U3 rfl rfl rfl<|.move rfl<|.move rfl<|.move rfl .nil) fun Y U =>?_
  refine plz (lj U aa 23 (k:=.u8) rfl rfl U22 lJ rfl rfl rfl rfl fun b1 Y b4 U br =>?_)
  have aP:=br.freezeN 23 rfl
  refine plz (ecl U Tryz.func107 rfl (na bl z [xa,xb,xc] _ _ _ ((aP.rd (i:=23) rfl).any) (by simp) (b3 ha9 hb9 hc9) (by omega)) ?_)
  rintro e b5 ⟨it,b6,b7,rfl,hit8,hpre9,hitb,hit1,aQ,aR⟩
  have bs:=aP.callF 24 rfl aR aQ
  refine⟨_,rfl,?_⟩;intro Y U
  refine k9 U (.fieldAddr (off:=0) rfl lx rfl (s:=0) (by kernel_rfl) rfl .nil) fun Y U =>?_
  refine plz (st1 U bs 22 ma fun b8 bt _ =>?_)
  refine k9 U (.fieldAddr (off:=9) rfl lx rfl (s:=0) (by kernel_rfl) rfl .nil) fun Y U =>?_
  refine plz (st1 U bt 22 rK fun b9 bu _ =>?_)
  refine wpList_nil ?_
  show K3 _ _
  exact hC3 _ _ ⟨_,_,_,it,_,_,_,_,_,by decide,hit8,hitb,U.only [2,3,4,5,6,12,14],bu.ren [(6,20),(12,21),(14,22),(9,24)] (by decide)⟩
 intro ac U;try simp only [QQ,Qax] at ac
 refine wcf U ?_
 replace U:=U.oz [2,3,4,5,6,12,14,37]
 refine la U (.eql rfl rfl<|.assign rfl .nil) fun Y U =>?_
 refine bc U 55 ?_ ?_
 ·
  intro ad U;try simp only [QQ,Qax] at ad
  refine wct U ?_
  have av:=aa.oz [20,21,22]
  refine region_p 10 (B:=[(20,_)]) (av.to i1l) av (by kernel_rfl) (fun ca ae aS =>?_);clear av
  refine goR ae [0,1,2,6] [2] 4 0 71 U (aS.to i1l) (.move rfl<|.conv rfl U5 U2 (r:=xa) (IntWalk.i64_in _ (by omega))<|.loadBR hh (i:=20) rfl rfl U34 rfl ld (by simp) (by dsimp only [List.drop,List.take] <;> rfl)<|.fa 0 rfl lx .nil) fun Y U =>?_
  refine so 3 ?_
  refine ecb U Tryz.func37 rfl aS (me _ _ _ _ _ _ _ _ _ _ _ _ _ _ _ _ _ _) fun Y cb U aw =>?_
  refine⟨aw.to i1l,?_⟩
  refine goA ae [4,5] 2 79 127 U (aw.to i1l) (.add rfl rfl (r:=(nw:Int)+2) (IntWalk.i64_in _ (by omega))<|.rem rfl rfl (by omega) rfl .nil) fun Y U =>?_
  refine so 7 ?_
  refine st1 U aw 22 ma fun cc ax _ =>?_
  refine⟨ax.to i1l,?_⟩
  refine goA ae [8] 1 255 511 U (ax.to i1l) (.fa 7 rfl lx .nil) fun Y U =>?_
  refine so 9 ?_
  refine st1 U ax 22 l3 fun cd aT _ =>?_
  refine⟨aT.to i1l,?_⟩
  refine wad ?_
  have bv:=aT.dat 23 rfl (Rd.l0 none 0 2)
  show K3 _ _
  exact hC3 _ _ ⟨_,_,_,[],_,_,_,_,_,by decide,by decide,(fun _ h=>by cases h),U.only [2,3,4,5,6,12,14],bv.ren [(6,20),(12,21),(14,22),(9,23)] (by decide)⟩
 intro ad U;try simp only [QQ,Qax] at ad
 refine wcf U ?_
 refine la U (.eql rfl rfl<|.assign rfl .nil) fun Y U =>?_
 refine bc U 65 ?_ ?_
 ·
  intro ag U;try simp only [QQ,Qax] at ag
  refine wct U ?_
  have ay:=aa.oz [20,21,22]
  refine region_p 10 (B:=[(20,_)]) (ay.to i1l) ay (by kernel_rfl) (fun ce ah aU =>?_);clear ay
  refine goR ah [0,1,2,6] [2] 4 0 71 U (aU.to i1l) (.move rfl<|.conv rfl U5 U2 (r:=xa) (IntWalk.i64_in _ (by omega))<|.loadBR hh (i:=20) rfl rfl U34 rfl ld (by simp) (by dsimp only [List.drop,List.take] <;> rfl)<|.fa 0 rfl lx .nil) fun Y U =>?_
  refine so 3 ?_
  refine ecb U Tryz.func37 rfl aU (me _ _ _ _ _ _ _ _ _ _ _ _ _ _ _ _ _ _) fun Y cf U az =>?_
  refine⟨az.to i1l,?_⟩
  refine goA ah [4,5] 2 79 127 U (az.to i1l) (.add rfl rfl (r:=(nw:Int)+2) (IntWalk.i64_in _ (by omega))<|.rem rfl rfl (by omega) rfl .nil) fun Y U =>?_
  refine so 7 ?_
  refine st1 U az 22 ma fun cg aA _ =>?_
  refine⟨aA.to i1l,?_⟩
  refine goA ah [8] 1 255 511 U (aA.to i1l) (.fa 7 rfl lx .nil) fun Y U =>?_
  refine so 9 ?_
  refine st1 U aA 22 l3 fun cj aV _ =>?_
  refine⟨aV.to i1l,?_⟩
  refine wad ?_
  have bw:=aV.dat 23 rfl (Rd.l0 none 0 2)
  show K3 _ _
  exact hC3 _ _ ⟨_,_,_,[],_,_,_,_,_,by decide,by decide,(fun _ h=>by cases h),U.only [2,3,4,5,6,12,14],bw.ren [(6,20),(12,21),(14,22),(9,23)] (by decide)⟩
 intro ag U;try simp only [QQ,Qax] at ag
 refine wcf U ?_
 refine la U (.eql rfl rfl<|.assign rfl .nil) fun Y U =>?_
 refine bc U 75 ?_ ?_
 ·
  intro ai U;try simp only [QQ,Qax] at ai
  refine wct U ?_
  replace U:=U.oz [2,3,4,5,6,12,14,37]
  have aB:=aa.oz [20,21,22]
  refine region_p 10 (B:=[(20,_)]) (aB.to i1l) aB (by kernel_rfl) (fun ck aj aW =>?_);clear aB
  refine goR aj [0,1,2,6] [2] 4 0 71 U (aW.to i1l) (.move rfl<|.conv rfl U5 U2 (r:=xa) (IntWalk.i64_in _ (by omega))<|.loadBR hh (i:=20) rfl rfl U34 rfl ld (by simp) (by dsimp only [List.drop,List.take] <;> rfl)<|.fa 0 rfl lx .nil) fun Y U =>?_
  refine so 3 ?_
  refine ecb U Tryz.func37 rfl aW (me _ _ _ _ _ _ _ _ _ _ _ _ _ _ _ _ _ _) fun Y cl U aC =>?_
  refine⟨aC.to i1l,?_⟩
  refine goA aj [4,5] 2 79 127 U (aC.to i1l) (.add rfl rfl (r:=(nw:Int)+2) (IntWalk.i64_in _ (by omega))<|.rem rfl rfl (by omega) rfl .nil) fun Y U =>?_
  refine so 7 ?_
  refine st1 U aC 22 ma fun cm aD _ =>?_
  refine⟨aD.to i1l,?_⟩
  refine goA aj [8] 1 255 511 U (aD.to i1l) (.fa 7 rfl lx .nil) fun Y U =>?_
  refine so 9 ?_
  refine st1 U aD 22 l3 fun co aX _ =>?_
  refine⟨aX.to i1l,?_⟩
  refine wad ?_
  have bx:=aX.dat 23 rfl (Rd.l0 none 0 2)
  show K3 _ _
  exact hC3 _ _ ⟨_,_,_,[],_,_,_,_,_,by decide,by decide,(fun _ h=>by cases h),U.only [2,3,4,5,6,12,14],bx.ren [(6,20),(12,21),(14,22),(9,23)] (by decide)⟩
 intro ai U;try simp only [QQ,Qax] at ai
 refine wcf U ?_
 replace U:=U.oz [2,3,4,5,6,12,14,37]
 refine la U (.eql rfl rfl<|.assign rfl .nil) fun Y U =>?_
 refine bc U 85 ?_ ?_
 ·
  intro ak U;try simp only [QQ,Qax] at ak
  refine wct U ?_
  refine wp_region_lit ?_
  refine k9 U (.fieldAddr (off:=0) rfl lx rfl (s:=0) (by kernel_rfl) rfl .nil) fun Y U =>?_
  refine plz (st1 U aa 22 ma fun cq bz _ =>?_)
  refine wpList_nil ?_
  have bA:=bz.dat 23 rfl (Rd.l0 none 0 2)
  show K3 _ _
  exact hC3 _ _ ⟨_,_,_,[],_,_,_,_,_,by decide,by decide,(fun _ h=>by cases h),U.only [2,3,4,5,6,12,14],bA.ren [(6,20),(12,21),(14,22),(9,23)] (by decide)⟩
 intro ak U;try simp only [QQ,Qax] at ak
 refine wcf U ?_
 refine la U (.eql rfl rfl<|.assign rfl .nil) fun Y U =>?_
 refine bc U 88 ?_ ?_
 ·
  intro al U;try simp only [QQ,Qax] at al
  refine wct U ?_
  have aE:=aa.oz [20,21,22]
  refine region_p 22 (B:=[(20,_)]) (aE.to i1l) aE (by kernel_rfl) (fun cr ao aY =>?_);clear aE
  refine goR ao [0,1,2,3,4,5,6,7,8,9,10,11,12,13,16] [1,9,11] 15 0 81919 U (aY.to i1l) (.fa 6 rfl U34<|.lb hh 20 U3 rfl rfl rfl<|.move rfl<|.rem rfl rfl (by decide) (Int.tmod_eq_emod_of_nonneg (by omega))<|.conv rfl U5 U3 (r:=xc % 5) (IntWalk.i64_in _ (by omega))<|.quo rfl rfl (by decide) (r:=xc % 5 / 4) (by rw[Int.tdiv_eq_ediv_of_nonneg (by omega)];exact IntWalk.i64_in _ (by omega))<|.sub rfl rfl (r:=ne - xc % 5 / 4) (IntWalk.i64_in _ (by omega))<|.p (fun _ _ h_=>oK h_ rfl rfl rfl)<|.fa 1 rfl U34<|.lb hh 20 U3 rfl rfl rfl<|.fa 2 rfl U34<|.lb hh 20 U3 rfl rfl rfl<|.move rfl<|.move rfl<|.fa 0 rfl lx .nil) fun Y U =>?_
  refine so 14 ?_
  refine lj U aY 23 (k:=.u8) rfl rfl U22 lJ rfl rfl rfl rfl fun ct Y cu U aZ =>?_
  refine⟨aZ.to i1l,?_⟩
  have a0:=aZ.freezeN 23 rfl
  refine so 15 ?_
  refine ecl U Tryz.func107 rfl (na bl z [xa,xb] _ _ _ ((a0.rd (i:=23) rfl).any) (by simp) (b2 ha9 hb9) (by omega)) ?_
  rintro e cv ⟨it,cy,cz,rfl,hit8,hpre9,hitb,hit1,a1,a2⟩
  have a3:=a0.callF 24 rfl a2 a1
  refine⟨_,rfl,?_⟩;intro Y U
  refine⟨a3.to i1l,?_⟩
  refine so 17 ?_
  refine st1 U a3 22 ma fun cA aF _ =>?_
  refine⟨aF.to i1l,?_⟩
  refine goA ao [18] 1 262143 524287 U (aF.to i1l) (.fa 8 rfl lx .nil) fun Y U =>?_
  refine so 19 ?_
  refine st1 U aF 22 ma fun cB aG _ =>?_
  refine⟨aG.to i1l,?_⟩
  refine goA ao [20] 1 1048575 2097151 U (aG.to i1l) (.fa 9 rfl lx .nil) fun Y U =>?_
  refine so 21 ?_
  refine st1 U aG 22 rK fun cC a4 _ =>?_
  refine⟨a4.to i1l,?_⟩
  refine wad ?_
  show K3 _ _
  exact hC3 _ _ ⟨_,_,_,it,_,_,_,_,_,by decide,hit8,hitb,U.only [2,3,4,5,6,12,14],a4.ren [(6,20),(12,21),(14,22),(9,24)] (by decide)⟩
 intro al U;try simp only [QQ,Qax] at al
 refine wcf U ?_
 refine wp_region_lit ?_
 refine k9 U (.fieldAddr (off:=0) rfl lx rfl (s:=0) (by kernel_rfl) rfl .nil) fun Y U =>?_
 refine plz (st1 U aa 22 ma fun cD bB _ =>?_)
 refine wpList_nil ?_
 have bC:=bB.dat 23 rfl (Rd.l0 none 0 2)
 show K3 _ _
 exact hC3 _ _ ⟨_,_,_,[],_,_,_,_,_,by decide,by decide,(fun _ h=>by cases h),U.only [2,3,4,5,6,12,14],bC.ren [(6,20),(12,21),(14,22),(9,23)] (by decide)⟩
end
section
abbrev PI:=Int×List Int
abbrev PWr:=Int×List PI
theorem lW{fl:Int}{n:Nat}{pins:List Int}:vc fl n pins pins.length↔pins.Pairwise (·≤·)∧∀ p∈pins,fl≤p∧p≤n:=by
 constructor
 · intro h
   have hadj:∀ j,j+1<pins.length→pins.getD j 0≤pins.getD (j+1) 0:=fun j hj=>(h (j+1) hj).1
   have hmono:∀ d i,i+d<pins.length→pins.getD i 0≤pins.getD (i+d) 0:=by
     intro d
     induction d with
     | zero=>intro i _;exact Int.le_refl _
     | succ d ih=>intro i hi;have h1:=ih i (by omega);have h2:=hadj (i+d) (by omega);rw[Nat.add_assoc] at h2;omega
   refine⟨List.pairwise_iff_getElem.2 (fun i j hi hj hij =>?_),fun p hp =>?_⟩
   · have h1:=hmono (j - i) i (by omega)
     rw[show i+(j - i)=j by omega,List.getD,List.getD,List.getElem?_eq_getElem hi,List.getElem?_eq_getElem hj] at h1
     exact h1
   obtain⟨j,hj,rfl⟩:=List.getElem_of_mem hp
   have h0:fl≤pins.getD 0 0:=(h 0 (by omega)).1
   have h1:=hmono j 0 (by omega)
   have h2:=(h j hj).2
   rw[Nat.zero_add] at h1
   rw[show pins[j]=pins.getD j 0 by rw[List.getD,List.getElem?_eq_getElem hj];rfl]
   omega
 rintro⟨h1,h2⟩ j hj
 have hm:pins.getD j 0∈pins:=l1 hj
 refine⟨?_,(h2 _ hm).2⟩
 cases j with
 | zero=>exact(h2 _ hm).1
 | succ j =>
   show pins.getD j 0≤pins.getD (j+1) 0
   rw[List.getD,List.getD,List.getElem?_eq_getElem (by omega),List.getElem?_eq_getElem hj]
   exact List.pairwise_iff_getElem.1 h1 j (j+1) (by omega) hj (by omega)
theorem yY{n:Nat}{pins:List Int}:s8 n pins≤n∧∀ p∈pins,s8 n pins≤p:=by
 unfold s8
 have key:∀ (l:List Int) (x:Int),l.foldl min x≤x∧∀ p∈l,l.foldl min x≤p:=by
   intro l
   induction l with
   | nil=>intro x;exact⟨Int.le_refl _,fun p hp=>by cases hp⟩
   | cons y r ih =>
     intro x
     obtain⟨h1,h2⟩:=ih (min x y)
     refine⟨by simp only [List.foldl_cons];omega,fun p hp =>?_⟩
     simp only [List.foldl_cons]
     rcases List.mem_cons.1 hp with rfl|hp
     · omega
     exact h2 p hp
 exact key pins n
theorem tT{bl sz:Int}{ws:List PWr}{it:List PI}(h:oD bl sz ws ws.length)(hI:mb bl sz it):oD bl sz (ws++[((ws.length:Int)+1,it)]) (ws.length+1):=fun j hj=>by
 rcases Nat.lt_or_ge j ws.length with h1|h1
 · have h2:=h j h1
   rw[show(ws++[((ws.length:Int)+1,it)]).getD j w1=ws.getD j w1 by simp [List.getD,List.getElem?_append,h1]]
   exact h2
 obtain rfl:j=ws.length:=by omega
 rw[show(ws++[((ws.length:Int)+1,it)]).getD ws.length w1=((ws.length:Int)+1,it) by simp [List.getD]]
 exact⟨rfl,hI⟩
section
variable {vo bl sz pe to ne fl:Int} {hi:Bool} {place pins:List Int} {ws:List PWr}
theorem VolR.sorted(h:VolR vo bl sz pe to ne fl hi place pins ws):pins.Pairwise (·≤·):=by
 obtain⟨h1,h2,h3,h4,h5,h6,h7,h8,h9⟩:=h
 exact(lW.1 h8).1
theorem VolR.write(h:VolR vo bl sz pe to ne fl hi place pins ws){it:List PI}(hI:mb bl sz it):VolR vo bl sz pe to ne fl hi place pins (ws++[((ws.length:Int)+1,it)]):=by
 obtain⟨h1,h2,h3,h4,h5,h6,h7,h8,h9⟩:=h
 refine⟨h1,h2,h3,h4,h5,h6,by rw[List.length_append];simp;omega,?_,by rw[List.length_append];exact tT h9 hI⟩
 obtain⟨g1,g2⟩:=lW.1 h8
 exact lW.2 ⟨g1,fun p hp=>by have:=g2 p hp;rw[List.length_append];simp;omega⟩
theorem VolR.do(h:VolR vo bl sz pe to ne fl hi place pins ws)(hh:hi=true→pins=[]){kd at0 ix:Int}{it:List PI}{ne' fl' e9:Int}{hi':Bool}{ws':List PWr}(hd:doR bl sz to ne fl hi pins ws kd at0 ix it=(ne',hi',fl',ws',e9)) :
   VolR vo bl sz pe to ne' fl' hi' place pins ws'∧(hi'=true→pins=[])∧ws'.length≤ws.length+1:=by
 have hsame:VolR vo bl sz pe to ne fl hi place pins ws∧(hi=true→pins=[])∧ws.length≤ws.length+1:=⟨h,hh,by omega⟩
 unfold doR at hd
 split at hd
 · unfold yU at hd
   split at hd
   · simp only [Prod.mk.injEq] at hd;obtain⟨rfl,rfl,rfl,rfl,rfl⟩:=hd;exact hsame
   unfold wrR at hd
   split at hd
   · rename_i hI
     simp only [Prod.mk.injEq] at hd;obtain⟨rfl,rfl,rfl,rfl,rfl⟩:=hd
     exact⟨h.write hI,hh,by simp⟩
   simp only [Prod.mk.injEq] at hd;obtain⟨rfl,rfl,rfl,rfl,rfl⟩:=hd;exact hsame
 split at hd
 · unfold oY at hd
   split at hd
   · rename_i hr
     simp only [Prod.mk.injEq] at hd;obtain⟨rfl,rfl,rfl,rfl,rfl⟩:=hd
     unfold lV at hr
     split at hr
     · cases hr
     split at hr
     · cases hr
     split at hr
     · cases hr
     rename_i a1 a2 a3
     obtain⟨h1,h2,h3,h4,h5,h6,h7,h8,h9⟩:=h
     have hl:=@yY ws.length pins
     obtain⟨g1,g2⟩:=lW.1 h8
     exact⟨⟨h1,h2,h3,h4,h5,by omega,by omega,lW.2 ⟨g1,fun p hp=>by have b1:=hl.2 p hp;have b2:=g2 p hp;omega⟩,h9⟩,hh,by omega⟩
   simp only [Prod.mk.injEq] at hd;obtain⟨rfl,rfl,rfl,rfl,rfl⟩:=hd;exact hsame
 split at hd
 · unfold takeR at hd
   split at hd
   · simp only [Prod.mk.injEq] at hd;obtain⟨rfl,rfl,rfl,rfl,rfl⟩:=hd;exact hsame
   split at hd
   · simp only [Prod.mk.injEq] at hd;obtain⟨rfl,rfl,rfl,rfl,rfl⟩:=hd;exact hsame
   split at hd
   · simp only [Prod.mk.injEq] at hd;obtain⟨rfl,rfl,rfl,rfl,rfl⟩:=hd;exact hsame
   rename_i b1 b2 b3
   by_cases hI:mb bl sz it
   · rw[show wrR bl sz ws it=(ws++[((ws.length:Int)+1,it)],0) from by rw[wrR,if_pos hI]] at hd
     rw[if_pos rfl] at hd
     simp only [Prod.mk.injEq] at hd;obtain⟨rfl,rfl,rfl,rfl,rfl⟩:=hd
     obtain⟨h1,h2,h3,h4,h5,h6,h7,h8,h9⟩:=h.write hI
     refine⟨⟨h1,by omega,?_,h4,fun e=>absurd e b1,h6,h7,h8,h9⟩,hh,by simp⟩
     have:ne≠to:=fun e=>b3 (.inr e)
     omega
   rw[show wrR bl sz ws it=(ws,23) from by rw[wrR,if_neg hI]] at hd
   rw[if_neg (by simp)] at hd
   simp only [Prod.mk.injEq] at hd;obtain⟨rfl,rfl,rfl,rfl,rfl⟩:=hd;exact hsame
 split at hd
 · unfold nv at hd
   split at hd
   · simp only [Prod.mk.injEq] at hd;obtain⟨rfl,rfl,rfl,rfl,rfl⟩:=hd;exact hsame
   rename_i b1
   simp only [Prod.mk.injEq] at hd;obtain⟨rfl,rfl,rfl,rfl,rfl⟩:=hd
   obtain⟨h1,h2,h3,h4,h5,h6,h7,h8,h9⟩:=h
   have e1:hi=true:=by cases hi with|true=>rfl|false=>exact absurd (.inl rfl) b1
   have e2:ne=to:=by
     by_cases e:ne=to
     · exact e
     exact absurd (.inr e) b1
   have e3:=hh e1
   subst e3
   exact⟨⟨h1,h2,h3,(fun e=>by cases e),(fun _=>e2),by omega,by omega,(fun j hj=>by simp at hj),h9⟩,(fun e=>by cases e),by omega⟩
 split at hd
 · simp only [Prod.mk.injEq] at hd;obtain⟨rfl,rfl,rfl,rfl,rfl⟩:=hd;exact hsame
 simp only [Prod.mk.injEq] at hd;obtain⟨rfl,rfl,rfl,rfl,rfl⟩:=hd;exact hsame
theorem VolR.pin(h:VolR vo bl sz pe to ne fl hi place pins ws)(hh:hi=true→pins=[]){at0 e9:Int}{pins':List Int}(hd:tP hi fl at0 ws.length pins=(pins',e9)) :
   VolR vo bl sz pe to ne fl hi place pins' ws∧(hi=true→pins'=[])∧pins'.length≤pins.length+1:=by
 unfold tP at hd
 split at hd
 · rename_i hr
   simp only [Prod.mk.injEq] at hd;obtain⟨rfl,rfl⟩:=hd
   unfold lV at hr
   split at hr
   · cases hr
   split at hr
   · cases hr
   split at hr
   · cases hr
   rename_i a1 a2 a3
   obtain⟨h1,h2,h3,h4,h5,h6,h7,h8,h9⟩:=h
   obtain⟨g1,g2⟩:=lW.1 h8
   refine⟨⟨h1,h2,h3,h4,h5,h6,h7,lW.2 ⟨oZ _,fun p hp =>?_⟩,h9⟩,fun e=>absurd e a1,by simp [qK]⟩
   rw[qK,List.mem_mergeSort] at hp
   rcases List.mem_append.1 hp with hp|hp
   · exact g2 p hp
   simp at hp;subst hp;omega
 simp only [Prod.mk.injEq] at hd;obtain⟨rfl,rfl⟩:=hd
 exact⟨h,hh,by omega⟩
theorem VolR.unpin(h:VolR vo bl sz pe to ne fl hi place pins ws)(hh:hi=true→pins=[]){at0 e9:Int}{pins':List Int}(hd:oG hi at0 pins=(pins',e9)) :
   VolR vo bl sz pe to ne fl hi place pins' ws∧(hi=true→pins'=[])∧pins'.length≤pins.length+1:=by
 unfold oG at hd
 split at hd
 · simp only [Prod.mk.injEq] at hd;obtain⟨rfl,rfl⟩:=hd
   exact⟨h,hh,by omega⟩
 rename_i b1
 simp only [Prod.mk.injEq] at hd;obtain⟨rfl,rfl⟩:=hd
 obtain⟨h1,h2,h3,h4,h5,h6,h7,h8,h9⟩:=h
 obtain⟨g1,g2⟩:=lW.1 h8
 have hs:(pins.take (Lib.idxOf pins at0).toNat++pins.drop ((Lib.idxOf pins at0).toNat+1)).Sublist pins:=by
   rw[← List.eraseIdx_eq_take_drop_succ];exact List.eraseIdx_sublist _ _
 exact⟨⟨h1,h2,h3,h4,h5,h6,h7,lW.2 ⟨g1.sublist hs,fun p hp=>g2 p (hs.subset hp)⟩,h9⟩,fun e=>absurd (.inl e) b1,by have:=hs.length_le;omega⟩
theorem VolR.its(h:VolR vo bl sz pe to ne fl hi place pins ws):rT ws∧(∀ e∈ws,e.2.length≤8):=by
 obtain⟨⟨a1,a2,a3,a4,a5,a6,a7⟩,h2,h3,h4,h5,h6,h7,h8,h9⟩:=h
 have key:∀ e∈ws,e.2.length≤8∧∀ x∈e.2,x.2.length≤32:=fun e he=>by
   obtain⟨j,hj,rfl⟩:=List.getElem_of_mem he
   have h10:=(h9 j hj).2
   rw[List.getD,List.getElem?_eq_getElem hj] at h10
   refine⟨h10.2.1,fun x hx =>?_⟩
   obtain⟨i,hi,rfl⟩:=List.getElem_of_mem hx
   have h11:=(h10.2.2 i hi).2.2.1
   simp only [Option.getD_some] at h11
   rw[List.getD,List.getElem?_eq_getElem hi] at h11
   simp only [Option.getD_some] at h11
   omega
 exact⟨fun e he=>⟨Nat.le_trans (key e he).1 (by decide),fun x hx=>Nat.le_trans ((key e he).2 x hx) (by decide)⟩,fun e he=>(key e he).1⟩
theorem VolR.new{vo bl sz pe to:Int}{place:List Int}(hN:pU vo bl sz pe to place):VolR vo bl sz pe to 0 0 (decide (0<to)) place [] []:=by
 have hN':=hN
 obtain⟨h1,h2,h3,h4,h5,h6,h7,h8,h9,h10,h11⟩:=hN'
 exact⟨hN,by omega,by omega,(fun e=>by simp at e;omega),(fun e=>by simp at e;omega),by omega,by simp,(fun j hj=>by simp at hj),(fun j hj=>by simp at hj)⟩
end
end
section
theorem po{α:Type}{mm:Nat}(vs:List α)(hv:vs.length=mm):∀ (cs:List (List α)) (J:Nat),(∀ c∈cs,c.length=mm)→J<cs.length→cs.flatten.take (J*mm)++vs++cs.flatten.drop (J*mm+mm)=(cs.set J vs).flatten
 | [],J,_,h=>by simp at h
 | a :: cs,0,hc,h=>by
   have ha:=hc a (by simp)
   rw[List.set_cons_zero,List.flatten_cons,List.flatten_cons,Nat.zero_mul,Nat.zero_add,List.take_zero,List.nil_append,List.drop_left' ha]
 | a :: cs,J+1,hc,h=>by
   have ha:=hc a (by simp)
   have ih:=po vs hv cs J (fun c h=>hc c (by simp [h])) (by simpa using h)
   have e1:(J+1)*mm=a.length+J*mm:=by rw[ha,Nat.add_mul];omega
   rw[List.set_cons_succ,List.flatten_cons,List.flatten_cons,← ih,e1,Nat.add_assoc,List.take_append,List.drop_append,List.take_of_length_le (by omega),List.drop_of_length_le (by omega)]
   rw[show a.length+J*mm - a.length=J*mm by omega,show a.length+(J*mm+mm) - a.length=J*mm+mm by omega]
   simp
section
variable {P:Program} {n:Nat} {T:List (Nat×Value)} {a:Act} {w w0:World} {X:Cx} {M:Mm} {tt:TypeId} {pos:String} {af:Array Edge} {gd:Option (Nat×Bool)} {Q:Exit→Act→World→Prop} {K:Act→World→Prop}
end
end
section
structure VolV where
 vo:Int
 bl:Int
 sz:Int
 pe:Int
 place:List Int
 to:Int
 ne:Int
 hi:Bool
 fl:Int
 pins:List Int
 ws:List PWr
def mg(x:VolV):List D:=[.v (.int .i64 x.vo),.v (.int .i64 x.bl),.v (.int .i64 x.sz),.v (.int .i64 x.pe),.ns .i64 x.place,.v (.int .i64 x.to),.v (.int .i64 x.ne),.v (.bool x.hi),.v (.int .i64 x.fl),.ns .i64 x.pins,.l 2 (x.ws.map wrD)]
theorem oH{L:List VolV}{k:Nat}{x:VolV}(h:L[k]? = some x):(L.map mg)[k]? = some [.v (.int .i64 x.vo),.v (.int .i64 x.bl),.v (.int .i64 x.sz),.v (.int .i64 x.pe),.ns .i64 x.place,.v (.int .i64 x.to),.v (.int .i64 x.ne),.v (.bool x.hi),.v (.int .i64 x.fl),.ns .i64 x.pins,.l 2 (x.ws.map wrD)]:=by simp [h,mg]
def WBy(ws:List PWr):Prop:=∀ e∈ws,∀ x∈e.2,lg x.2
theorem WBy.snoc{ws:List PWr}{s:Int}{it:List PI}(h:WBy ws)(hi:∀ e∈it,lg e.2):WBy (ws++[(s,it)]):=fun e he=>by
 rcases List.mem_append.1 he with h1|h1
 · exact h e h1
 rw[List.mem_singleton.1 h1];exact hi
theorem z3{bl sz to ne fl:Int}{hi:Bool}{pins:List Int}{ws:List PWr}{kd at0 ix:Int}{it:List PI}{ne' fl' e9:Int}{hi':Bool}{ws':List PWr}(h:doR bl sz to ne fl hi pins ws kd at0 ix it=(ne',hi',fl',ws',e9))(hw:WBy ws)(hb:∀ e∈it,lg e.2):WBy ws':=by
 unfold doR yU oY takeR nv wrR at h
 repeat' split at h
 all_goals (simp only [Prod.mk.injEq] at h;obtain⟨-,-,-,rfl,-⟩:=h;first|exact hw|exact hw.snoc hb)
def VolS(n:Nat)(x:VolV):Prop:=VolR x.vo x.bl x.sz x.pe x.to x.ne x.fl x.hi x.place x.pins x.ws∧(x.hi=true→x.pins=[])∧x.pins.length≤n∧x.ws.length≤n∧WBy x.ws
theorem VolS.up{n m:Nat}{x:VolV}(h:VolS n x)(hm:n≤m):VolS m x:=⟨h.1,h.2.1,by have:=h.2.2.1;omega,by have:=h.2.2.2.1;omega,h.2.2.2.2⟩
def MacS(n:Nat)(L:List VolV):Prop:=L.length≤n∧∀ x∈L,VolS n x
theorem MacS.set{n:Nat}{L:List VolV}{x:VolV}(h:MacS n L)(hx:VolS (n+1) x)(k:Nat):MacS (n+1) (L.set k x):=⟨by rw[List.length_set];have:=h.1;omega,fun y hy=>by
 rcases List.mem_or_eq_of_mem_set hy with hy|rfl
 · exact(h.2 y hy).up (by omega)
 exact hx⟩
theorem MacS.ins{n:Nat}{L:List VolV}{x:VolV}(h:MacS n L)(hx:VolS (n+1) x)(k:Nat):MacS (n+1) (L.take k++[x]++L.drop k):=⟨by simp only [List.length_append,List.length_take,List.length_drop,List.length_singleton];have:=h.1;omega,fun y hy=>by
 rcases List.mem_append.1 hy with hy|hy
 · rcases List.mem_append.1 hy with hy|hy
   · exact(h.2 y (List.mem_of_mem_take hy)).up (by omega)
   rw[List.mem_singleton.1 hy];exact hx
 exact(h.2 y (List.mem_of_mem_drop hy)).up (by omega)⟩
theorem MacS.up{n m:Nat}{L:List VolV}(h:MacS n L)(hm:n≤m):MacS m L:=⟨by have:=h.1;omega,fun x hx=>(h.2 x hx).up hm⟩
theorem z4(X:Cx)(B:Nat)(L:List VolV)(p:Option Addr)(c:Nat)(vo:Int)(w0:World)(hl:L.length≤1000000)(m0:MemOk X w0 [(1,.box B 120 [.slice p (L.map mg).length c]),(2,.dat (.slice p (L.map mg).length c) (.l 11 (L.map mg)))] w0) :
   Calls Tryz.prog 103 #[.pointer (some ⟨B,0,none⟩),.int .i64 vo] w0 fun e w' => ∃ j:Int,e=.returned (.int .i64 j)∧-1≤j∧j<L.length∧MemOk X w0 [(1,.box B 120 [.slice p (L.map mg).length c]),(2,.dat (.slice p (L.map mg).length c) (.l 11 (L.map mg)))] w':=by
 refine mR Tryz.func103 rfl Tryz.ntmps103 fun Y U =>?_
 refine la U (.assign rfl .nil) fun Y U =>?_
 refine wsk fun K0 hK0 =>?_
 refine la U (.assign rfl .nil) fun Y U =>?_
 refine wp_block ?_
 refine wp_loop_ghost (fun g a w => ∃ (k:Nat),k≤L.length∧g=L.length - k∧Has 26 [(0,.pointer (some ⟨B,0,none⟩)),(1,.int .i64 vo),(5,.int .i64 k)] a∧MemOk X w0 [(1,.box B 120 [.slice p (L.map mg).length c]),(2,.dat (.slice p (L.map mg).length c) (.l 11 (L.map mg)))] w) (L.length) ?_ ?_
 · exact⟨0,Nat.zero_le _,rfl,U.only [0,1,5],m0.only [1,2]⟩
 clear U m0
 rintro g Y w3 ⟨k,hkl,hg,U,m3⟩
 refine wsk fun K1 hK1 =>?_
 refine la U (.move rfl<|.move rfl<|.nilCheck rfl<|.fa 0 rfl ud<|.lb m3 1 nz rfl rfl rfl<|.len rfl nz<|.lss rfl rfl .nil) fun Y U =>?_
 refine bc U 12 ?_ ?_
 ·
  intro ao U;try simp only [QQ,Qax] at ao
  have hk:k<L.length:=by have:=ao;simp at this;omega
  obtain⟨x,hes⟩:∃ x,L[k]? = some x:=⟨_,List.getElem?_eq_getElem (by simpa using hk)⟩
  refine wct U ?_
  refine zss (hK1 _ _ ?_)
  refine wsk fun K2 hK2 =>?_
  refine wp_block ?_
  replace U:=U.oz [0,1,5]
  refine zsr fun K3 hK3 =>?_
  refine k9 U (.move rfl<|.nilCheck rfl<|.fa 0 rfl ud<|.lb m3 1 nz rfl rfl rfl<|.move rfl .nil) fun Y U =>?_
  obtain⟨aG,aH,aC,ar,au,av,az⟩:=m3.openR (i:=2) rfl (k) (r:=[.v (.int .i64 x.vo),.v (.int .i64 x.bl),.v (.int .i64 x.sz),.v (.int .i64 x.pe),.ns .i64 x.place,.v (.int .i64 x.to),.v (.int .i64 x.ne),.v (.bool x.hi),.v (.int .i64 x.fl),.ns .i64 x.pins,.l 2 (x.ws.map wrD)]) (oH hes) 100 rfl
  revert U
  cases ar;clear m3 av
  rcases au with _|⟨ad,_|⟨ae,_|⟨ag,_|⟨ah,_|⟨ab,_|⟨ai,_|⟨aj,_|⟨ak,_|⟨al,_|⟨ac,_|⟨aa,_|_⟩⟩⟩⟩⟩⟩⟩⟩⟩⟩⟩
  obtain rfl:=ad.v_out
  clear ad
  obtain rfl:=ae.v_out
  clear ae
  obtain rfl:=ag.v_out
  clear ag
  obtain rfl:=ah.v_out
  clear ah
  obtain⟨aI,aJ,aw,aD⟩:=ab.ns_shape;subst aw
  intro U
  have aA:=az.dat 101 rfl (ab.cast (fun _ h=>(lf rfl h)));clear az ab
  revert U
  obtain rfl:=ai.v_out
  clear ai
  obtain rfl:=aj.v_out
  clear aj
  obtain rfl:=ak.v_out
  clear ak
  obtain rfl:=al.v_out
  clear al
  obtain⟨aK,aL,ax,aE⟩:=ac.ns_shape;subst ax
  intro U
  have aB:=aA.dat 102 rfl (ac.cast (fun _ h=>(lf rfl (lf rfl h))));clear aA ac
  revert U
  obtain⟨aM,aN,ay,aF⟩:=aa.l_shape;subst ay
  intro U
  have aq:=aB.dat 103 rfl (aa.cast (fun _ h=>(lf rfl (lf rfl (lf rfl h)))));clear aB aa
  refine gz hK3 U (.c rfl (fun _ h_=>li h_ rfl rfl nz ld (k) rfl (by simpa using hk))<|.fieldAddrQ 0 rfl U34 rfl (s:=0) (by kernel_rfl) rfl<|.loadC0 aq (i:=100) rfl rfl U3 rfl<|.move rfl<|.eql rfl rfl<|.nil) fun Y U =>?_
  refine bc U 24 ?_ ?_
  ·
   intro ap U;try simp only [QQ,Qax] at ap
   refine wct U ?_
   replace U:=U.oz [0,1,5]
   refine la U (.move rfl<|.assign rfl .nil) fun Y U =>?_
   refine rt1 U ?_
   first|exact⟨k,rfl,by omega,by omega,aq.only [1,2]⟩|exact⟨-1,rfl,by omega,by omega,aq.only [1,2]⟩
  intro ap U;try simp only [QQ,Qax] at ap
  refine wcf U ?_
  refine zss (hK2 _ _ ?_)
  replace U:=U.oz [0,1,5]
  refine wp_region_lit ?_
  refine k9 U (.move rfl<|.inc (k+1)<|.assign rfl .nil) fun Y U =>?_
  refine wpList_nil ?_
  show ∃ n',n'<_∧_
  exact⟨L.length - (k+1),by omega,k+1,by omega,rfl,U.only [0,1,5],aq.only [1,2]⟩
 intro ao U;try simp only [QQ,Qax] at ao
 refine wcf U ?_
 refine wp_exit ?_
 refine hK0 _ _ ?_
 replace U:=U.oz [0,1,5]
 refine la U (.assign rfl .nil) fun Y U =>?_
 refine rt1 U ?_
 first|exact⟨k,rfl,by omega,by omega,m3.only [1,2]⟩|exact⟨-1,rfl,by omega,by omega,m3.only [1,2]⟩
theorem ry(X:Cx)(x:VolV)(n:Nat)(hx:VolS n x)(hn:n≤800000)(items:List (Int×List Int))(pp pn pw:Option Addr)(cp cn9 cw:Nat)(pi:Option Addr)(ci:Nat)(kd v1 v2 v3 v4 v5 at0 ix:Int)(q1:Option Addr)(n1 c1:Nat)(w0:World)(hil:items.length≤1000000)(hio:rx items)(hiy:∀ e∈items,lg e.2)(m0:MemOk X w0 [(1,.dat (.slice pp x.place.length cp) (.ns .i64 x.place)),(2,.dat (.slice pn x.pins.length cn9) (.ns .i64 x.pins)),(3,.dat (.slice pw (x.ws.map wrD).length cw) (.l 2 (x.ws.map wrD))),(4,.dat (.slice pi (items.map itD).length ci) (.l 2 (items.map itD)))] w0) :
   Calls Tryz.prog 109 #[.agg #[.int .i64 x.vo,.int .i64 x.bl,.int .i64 x.sz,.int .i64 x.pe,.slice pp x.place.length cp,.int .i64 x.to,.int .i64 x.ne,.bool x.hi,.int .i64 x.fl,.slice pn x.pins.length cn9,.slice pw (x.ws.map wrD).length cw],.agg #[.int .i64 kd,.int .i64 v1,.int .i64 v2,.int .i64 v3,.int .i64 v4,.slice q1 n1 c1,.int .i64 v5,.int .i64 at0,.int .i64 ix,.slice pi (items.map itD).length ci]] w0 fun e w' => ∃ (y:VolV) (e9 rl rf rn:Int) (p1 p2 p3:Option Addr) (d1 d2 d3:Nat),e=.returned (.tuple #[.agg #[.int .i64 y.vo,.int .i64 y.bl,.int .i64 y.sz,.int .i64 y.pe,.slice p1 y.place.length d1,.int .i64 y.to,.int .i64 y.ne,.bool y.hi,.int .i64 y.fl,.slice p2 y.pins.length d2,.slice p3 (y.ws.map wrD).length d3],.agg #[.int .i64 e9,.int .i64 rl,.int .i64 rf,.int .i64 rn,.slice none 0 0]])∧y.vo=x.vo∧VolS (n+1) y∧MemOk X w0 [(1,.dat (.slice p1 y.place.length d1) (.ns .i64 y.place)),(2,.dat (.slice p2 y.pins.length d2) (.ns .i64 y.pins)),(3,.dat (.slice p3 (y.ws.map wrD).length d3) (.l 2 (y.ws.map wrD)))] w':=by
 obtain⟨h1,h2,h3,h4,h5⟩:=hx
 obtain⟨vo,bl,sz,pe,place,to,ne,hi,fl,pins,ws⟩:=x
 simp only at *
 have hI:(items.map itD).length=items.length:=List.length_map ..
 rw[hI] at m0 ⊢
 have hne : -1000000000000000≤ne∧ne≤1000000000000000:=by
   obtain⟨⟨a1,a2,a3,a4,a5,a6,a7,a8,a9,aa,ab⟩,b1,b2,b3⟩:=h1
   omega
 by_cases k4:kd=4
 · subst k4
   refine(AZ X vo bl sz pe to ne fl hi place pins ws pp pn pw cp cn9 cw v1 v2 v3 v4 v5 at0 ix q1 n1 c1 pi items.length ci w0 (by omega) h1.sorted (m0.only [1,2,3])).mono ?_
   rintro e w' ⟨pins',e9,rl,rf,rn,p2,d2,rfl,hd,hr,m⟩
   obtain⟨g1,g2,g3⟩:=h1.pin h2 hd
   exact⟨⟨vo,bl,sz,pe,place,to,ne,hi,fl,pins',ws⟩,e9,rl,rf,rn,_,_,_,_,_,_,rfl,rfl,⟨g1,g2,by simp only;omega,by simp only;omega,h5⟩,m.ren [(1,1),(2,6),(3,3)] (by decide)⟩
 by_cases k5:kd=5
 · subst k5
   refine(A0 X vo bl sz pe to ne fl hi place pins ws pp pn pw cp cn9 cw v1 v2 v3 v4 v5 at0 ix q1 n1 c1 pi items.length ci w0 (by omega) (m0.only [1,2,3])).mono ?_
   rintro e w' ⟨pins',e9,rl,rf,rn,p2,d2,rfl,hd,hr,m⟩
   obtain⟨g1,g2,g3⟩:=h1.unpin h2 hd
   exact⟨⟨vo,bl,sz,pe,place,to,ne,hi,fl,pins',ws⟩,e9,rl,rf,rn,_,_,_,_,_,_,rfl,rfl,⟨g1,g2,by simp only;omega,by simp only;omega,h5⟩,m.ren [(1,1),(2,6),(3,3)] (by decide)⟩
 refine(rDo X vo bl sz pe to ne fl hi place pins ws items pp pn pw cp cn9 cw pi ci kd v1 v2 v3 v4 v5 at0 ix q1 n1 c1 w0 k4 k5 hne (by omega) (by omega) hil hio m0).mono ?_
 rintro e w' ⟨ne',hi',fl',ws',e9,rl,rf,rn,p3,d3,rfl,hd,hr,m⟩
 obtain⟨g1,g2,g3⟩:=h1.do h2 hd
 exact⟨⟨vo,bl,sz,pe,place,to,ne',hi',fl',pins,ws'⟩,e9,rl,rf,rn,_,_,_,_,_,_,rfl,rfl,⟨g1,g2,by simp only;omega,by simp only;omega,z3 hd h5 hiy⟩,m.ren [(1,1),(2,2),(3,7)] (by decide)⟩
end
end Go.Proofs.YteglmahnkfgelaaGreat.K
