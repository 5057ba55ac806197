/- General laws of walks. -/
import Derived.Test.YtkehgingagggaaaGreatG13
import Derived.Test.YtkehgingagggaaaGreatG9
import Derived.Test.YtkehgingagggaaaGreatG12
namespace Go.Proofs.YtkehgingagggaaaGreat.K
open Go.ChangeShapes Go.WideShapes Go.ChangeAt Go.RowKit
set_option linter.unusedVariables false
set_option linter.unusedSimpArgs false
set_option maxRecDepth 100000
set_option maxHeartbeats 4000000
set_option autoImplicit true
set_option relaxedAutoImplicit true
section
theorem rZ:iO Tryz.prog 44 [.int .i64 0,.int .i64 0,.int .i64 0,.int .i64 0,.slice none 0 0]=true:=by kernel_rfl
theorem r5:iO Tryz.prog 44 [.int .i64 0,.int .i64 0,.int .i64 0,.int .i64 0,.slice none 0 0]=true:=by kernel_rfl
theorem r6:iO Tryz.prog 44 [.int .i64 0,.int .i64 0,.int .i64 0,.int .i64 0,.slice none 0 0]=true:=by kernel_rfl
theorem wC{bl sz to ne fl:Int}{ws:List (Int×List (Int×List Int))}{kd at0 ix:Int}{ne' fl' e9:Int}{ws':List (Int×List (Int×List Int))}(h:doR bl sz to ne fl hi pins ws kd at0 ix it=(ne',hi',fl',ws',e9))(he:¬ e9=0):ne'=ne∧hi'=hi∧fl'=fl∧ws'=ws:=by
 unfold doR q5 ka takeR jd wrR at h
 repeat' split at h
 all_goals (simp only [Prod.mk.injEq] at h;obtain⟨rfl,rfl,rfl,rfl,rfl⟩:=h;first|exact⟨rfl,rfl,rfl,rfl⟩|exact absurd rfl he|(exfalso;revert he;simp;done)|simp_all)
theorem tN{fl at0 n:Int}{e9:Int}(h:l5 hi fl at0 n pins=(pins',e9))(he:¬ e9=0):pins'=pins:=by
 unfold l5 at h
 split at h
 all_goals (simp only [Prod.mk.injEq] at h;obtain⟨rfl,rfl⟩:=h;first|rfl|exact absurd rfl he)
theorem qi{at0:Int}{e9:Int}(h:jm hi at0 pins=(pins',e9))(he:¬ e9=0):pins'=pins:=by
 unfold jm at h
 split at h
 all_goals (simp only [Prod.mk.injEq] at h;obtain⟨rfl,rfl⟩:=h;first|rfl|exact absurd rfl he)
theorem qj{l:List (Int×List Int)}{xb:Int}{xd:List Int}(h:∀ j,j<k→(l.getD j i0).2.length≤40)(hes:l[k]? = some (xb,xd))(hk:xd.length≤40):∀ j,j<k+1→(l.getD j i0).2.length≤40:=fun j hj=>by
 rcases Nat.lt_or_ge j k with h1|h1
 · exact h j h1
 obtain rfl:j=k:=by omega
 rw[rX hes];exact hk
theorem r7{l:List (Int×List Int)}(h:∀ j,j<l.length→(l.getD j i0).2.length≤40):∀ e∈l,e.2.length≤40:=fun e he=>by
 obtain⟨j,hj,rfl⟩:=List.getElem_of_mem he
 have:=h j hj
 rwa [List.getD,List.getElem?_eq_getElem hj] at this
theorem b2{a b:Int}(ha:0≤a∧a≤255)(hb:0≤b∧b≤255):∀ j,j < [a,b].length→0≤[a,b].getD j 0∧[a,b].getD j 0≤255:=fun j hj=>by
 match j,hj with
 | 0,_=>exact ha
 | 1,_=>exact hb
theorem b3{a b c:Int}(ha:0≤a∧a≤255)(hb:0≤b∧b≤255)(hc:0≤c∧c≤255):∀ j,j < [a,b,c].length→0≤[a,b,c].getD j 0∧[a,b,c].getD j 0≤255:=fun j hj=>by
 match j,hj with
 | 0,_=>exact ha
 | 1,_=>exact hb
 | 2,_=>exact hc
def SmallI(l:List (Int×List Int)):Prop:=l.length≤12∧∀ e∈l,e.2.length≤40
theorem SmallI.ok(h:SmallI l):j3 l:=fun e he=>Nat.le_trans (h.2 e he) (by decide)
theorem rDo(X)(vo bl sz pe to ne fl:Int)(hi)(place pins:List Int)(ws:List (Int×List (Int×List Int)))(items:List (Int×List Int))(pp pn pw:Option Addr)(cp cn9 cw:Nat)(pi ci)(kd v1 v2 v3 v4 v5 at0 ix:Int)(q1 n1 c1 w0)(hk4:kd≠4)(hk5:kd≠5)(hne : -1000000000000000≤ne∧ne≤1000000000000000)(hl:ws.length≤900000)(hp:pins.length≤1000000)(hil:items.length≤1000000)(hio:j3 items)(m0:MemOk X w0 [(1,.dat (.slice pp place.length cp) (.ns .i64 place)),(2,.dat (.slice pn pins.length cn9) (.ns .i64 pins)),(3,.dat (.slice pw (ws.map wrD).length cw) (.l 2 (ws.map wrD))),(4,.dat (.slice pi items.length ci) (.l 2 (items.map itD)))] w0) :
   Calls Tryz.prog 40 #[.agg #[.int .i64 vo,.int .i64 bl,.int .i64 sz,.int .i64 pe,.slice pp place.length cp,.int .i64 to,.int .i64 ne,.bool hi,.int .i64 fl,.slice pn pins.length cn9,.slice pw (ws.map wrD).length cw],.agg #[.int .i64 kd,.int .i64 v1,.int .i64 v2,.int .i64 v3,.int .i64 v4,.slice q1 n1 c1,.int .i64 v5,.int .i64 at0,.int .i64 ix,.slice pi items.length ci]] w0 fun e w' => ∃ (ne':Int) (hi':Bool) (fl':Int) (ws':List (Int×List (Int×List Int))) (e9 rl rf rn:Int) (p3':Option Addr) (d3':Nat),e=.returned (.tuple #[.agg #[.int .i64 vo,.int .i64 bl,.int .i64 sz,.int .i64 pe,.slice pp place.length cp,.int .i64 to,.int .i64 ne',.bool hi',.int .i64 fl',.slice pn pins.length cn9,.slice p3' (ws'.map wrD).length d3'],.agg #[.int .i64 e9,.int .i64 rl,.int .i64 rf,.int .i64 rn,.slice none 0 0]])∧doR bl sz to ne fl hi pins ws kd at0 ix items=(ne',hi',fl',ws',e9)∧((e9≠0∧rl=0∧rf=0∧rn=0)∨(e9=0∧rl=ws'.length∧rf=fl'∧rn=ne'))∧MemOk X w0 [(1,.dat (.slice pp place.length cp) (.ns .i64 place)),(2,.dat (.slice pn pins.length cn9) (.ns .i64 pins)),(3,.dat (.slice pw (ws.map wrD).length cw) (.l 2 (ws.map wrD))),(4,.dat (.slice pi items.length ci) (.l 2 (items.map itD))),(7,.dat (.slice p3' (ws'.map wrD).length d3') (.l 2 (ws'.map wrD)))] w':=by
 refine iZ Tryz.func40 rfl Tryz.ntmps40 fun Y U=>zsr fun K0 hK0=>plz<|iu U m0 20 (cs:=[_,_,_,_,_,_,_,_,_,_,_]) rfl rfl rfl fun g1 Y w2 U m2 _ _=>plz<|iu U m2 21 (cs:=[_,_,_,_,_,_,_,_,_,_]) rfl rfl rfl fun g3 Y w4 U m4 _ _=>plz<|hZ U m4 22 iA rfl fun g5 Y w6 U m6 _ _=>plz<|hZ U m6 23 iL rfl fun g7 Y w8 U m8 _ _=>znl<|hK0 _ _<|zsr fun K1 hK1=>g9 U (.loadBR m8 (i:=20) rfl rfl U51 rfl hH (by simp) (by dsimp only [List.drop,List.take] <;> rfl)<|.loadBR m8 (i:=21) rfl rfl U38 rfl ip (by simp) (by dsimp only [List.drop,List.take] <;> rfl) .nil) fun Y U=>plz (ecl U Tryz.func89 rfl (y2 _ _ _ _ _ _ _ _ _ place pins ws items _ _ _ _ _ _ _ _ kd _ _ _ _ _ _ _ _ _ _ _ hk4 hk5 hne hl hp hil hio (m8.into [(1,1),(2,2),(3,3),(4,4)] (by decide) rfl)) ?_)
 rintro e au ⟨ne1,hi1,fl1,ws1,e1,av,aw,rfl,hR,ab⟩
 have ad:=m8.back ab [(1,1),(2,2),(3,3),(4,4),(24,7)] (by decide);clear ab m8
 have ao:=ad.oz [1,2,3,4,24,20,21,22,23]
 refine⟨_,rfl,?_⟩;intro Y U
 refine g9 U (.move rfl<|.extract rfl rfl<|.extract rfl rfl .nil) fun Y U=>plz<|hZ U ao 25 iA rfl fun ax Y ay U ap _ _=>plz (stw U ap 25 hH fun az ae _ =>?_)
 refine gz hK1 U (.assign rfl .nil) fun Y U=>wsk fun K2 hK2 =>?_
 replace U:=U.oz [2,4,5,6,7]
 refine hC U (.move rfl<|.neq rfl rfl .nil) fun Y U=>bc U 15 ?_ ?_
 ·
  intro aa U;try simp only [QQ,Qax] at aa
  refine wct U<|zsr fun K3 hK3=>g9 U (.loadBR ae (i:=20) rfl rfl U51 rfl hH (by simp) (by dsimp only [List.drop,List.take] <;> rfl)<|.move rfl<|.build rfl iL rZ rfl (by dsimp only [iY,List.set] <;> rfl) .nil) fun Y U=>plz (stw U ae 22 hH fun aA aq _ =>?_)
  refine plz (stw U aq 23 iz fun aB ag _ =>?_)
  refine znl<|hK3 _ _<|rtd (lp (fn:=Tryz.f40) U ag (i:=22) (i2:=23) rfl rfl rfl rfl rfl U51 rfl hH U44 rfl iz ?_)
  revert U
  obtain⟨rfl,rfl,rfl,rfl⟩:=wC hR (by assumption)
  intro U
  have ar:=ag.dat 26 rfl (ag.rd (i:=3) rfl)
  exact⟨ne1,hi1,fl1,ws1,e1,0,0,0,_,_,rfl,hR,.inl ⟨by assumption,rfl,rfl,rfl⟩,ar.ren [(1,1),(2,2),(3,3),(4,4),(7,26)] (by decide)⟩
 intro aa U;try simp only [QQ,Qax] at aa
 refine wcf U<|zss<|hK2 _ _<|wsk fun K4 hK4 =>?_
 have ah:=ae.oz [1,2,3,4,20,21,22,23,24,25]
 refine region_p 10 (B:=[(25,_)]) (ah.to i1l) ah (by kernel_rfl) (fun aC ac ak =>?_);clear ah
 refine goR ac [0,1,3,4,5,6] [0,1,4,6] 6 0 123 U (ak.to i1l) (.loadBR hh (i:=25) rfl rfl U51 rfl hH (by simp) (by dsimp only [List.drop,List.take] <;> rfl)<|.loadBR hh (i:=25) rfl rfl U51 rfl hH (by simp) (by dsimp only [List.drop,List.take] <;> rfl)<|.fa 8 rfl U51<|.lb hh 25 U2 rfl rfl rfl<|.fa 6 rfl U51<|.lb hh 25 U3 rfl rfl rfl .nil) fun Y U=>so 2 ?_
 refine ecb U Tryz.func39 rfl ak (iH _ _ _ _ _ _ _ _ _ _ _ _ _ _ _ _ _ _) fun Y aD U ai=>⟨ai.to i1l,?_⟩
 refine goA ac [7] 1 127 255 U (ai.to i1l) (.build rfl iL rZ rfl (by dsimp only [iY,List.set] <;> rfl) .nil) fun Y U=>so 8 ?_
 refine stw U ai 22 hH fun aE al _ =>?_
 refine⟨al.to i1l,?_⟩
 refine so 9 ?_
 refine stw U al 23 iz fun aF aj _ =>?_
 refine⟨aj.to i1l,?_⟩
 refine wad<|hK4 _ _<|rtd (lp (fn:=Tryz.f40) U aj (i:=22) (i2:=23) rfl rfl rfl rfl rfl U51 rfl hH U44 rfl iz ?_)
 revert U
 obtain rfl:e1=0:=by first|assumption|omega
 intro U
 exact⟨ne1,hi1,fl1,ws1,0,ws1.length,fl1,ne1,_,_,by rw[List.length_map],hR,.inr ⟨rfl,rfl,rfl,rfl⟩,aj.ren [(1,1),(2,2),(3,3),(4,4),(7,24)] (by decide)⟩
theorem zk(X)(vo bl sz pe to ne fl:Int)(hi)(place pins:List Int)(ws:List (Int×List (Int×List Int)))(pp pn pw:Option Addr)(cp cn9 cw:Nat)(v1 v2 v3 v4 v5 at0 v6:Int)(q1 n1 c1 q2 n2 c2 w0)(hp:pins.length≤900000)(hsp:pins.Pairwise (·≤·))(m0:MemOk X w0 [(1,.dat (.slice pp place.length cp) (.ns .i64 place)),(2,.dat (.slice pn pins.length cn9) (.ns .i64 pins)),(3,.dat (.slice pw (ws.map wrD).length cw) (.l 2 (ws.map wrD)))] w0) :
   Calls Tryz.prog 40 #[.agg #[.int .i64 vo,.int .i64 bl,.int .i64 sz,.int .i64 pe,.slice pp place.length cp,.int .i64 to,.int .i64 ne,.bool hi,.int .i64 fl,.slice pn pins.length cn9,.slice pw (ws.map wrD).length cw],.agg #[.int .i64 4,.int .i64 v1,.int .i64 v2,.int .i64 v3,.int .i64 v4,.slice q1 n1 c1,.int .i64 v5,.int .i64 at0,.int .i64 v6,.slice q2 n2 c2]] w0 fun e w' => ∃ (pins':List Int) (e9 rl rf rn:Int) (p2':Option Addr) (d2':Nat),e=.returned (.tuple #[.agg #[.int .i64 vo,.int .i64 bl,.int .i64 sz,.int .i64 pe,.slice pp place.length cp,.int .i64 to,.int .i64 ne,.bool hi,.int .i64 fl,.slice p2' pins'.length d2',.slice pw (ws.map wrD).length cw],.agg #[.int .i64 e9,.int .i64 rl,.int .i64 rf,.int .i64 rn,.slice none 0 0]])∧l5 hi fl at0 ws.length pins=(pins',e9)∧((e9≠0∧rl=0∧rf=0∧rn=0)∨(e9=0∧rl=ws.length∧rf=fl∧rn=ne))∧MemOk X w0 [(1,.dat (.slice pp place.length cp) (.ns .i64 place)),(2,.dat (.slice pn pins.length cn9) (.ns .i64 pins)),(3,.dat (.slice pw (ws.map wrD).length cw) (.l 2 (ws.map wrD))),(6,.dat (.slice p2' pins'.length d2') (.ns .i64 pins'))] w':=by
 refine iZ Tryz.func40 rfl Tryz.ntmps40 fun Y U=>zsr fun K0 hK0=>plz<|iu U m0 20 (cs:=[_,_,_,_,_,_,_,_,_,_,_]) rfl rfl rfl fun g1 Y w2 U m2 _ _=>plz<|iu U m2 21 (cs:=[_,_,_,_,_,_,_,_,_,_]) rfl rfl rfl fun g3 Y w4 U m4 _ _=>plz<|hZ U m4 22 iA rfl fun g5 Y w6 U m6 _ _=>plz<|hZ U m6 23 iL rfl fun g7 Y w8 U m8 _ _=>znl<|hK0 _ _<|zsr fun K1 hK1=>g9 U (.loadBR m8 (i:=20) rfl rfl U51 rfl hH (by simp) (by dsimp only [List.drop,List.take] <;> rfl)<|.loadBR m8 (i:=21) rfl rfl U38 rfl ip (by simp) (by dsimp only [List.drop,List.take] <;> rfl) .nil) fun Y U=>plz (ecl U Tryz.func89 rfl (yi _ _ _ _ _ _ _ _ _ place pins ws _ _ _ _ _ _ _ _ _ _ _ _ _ _ _ _ _ _ _ _ hp hsp (m8.into [(1,1),(2,2),(3,3)] (by decide) rfl)) ?_)
 rintro e au ⟨pins1,e1,av,aw,rfl,hR,ab⟩
 have ad:=m8.back ab [(1,1),(2,2),(3,3),(24,6)] (by decide);clear ab m8
 have ao:=ad.oz [1,2,3,24,20,21,22,23]
 refine⟨_,rfl,?_⟩;intro Y U
 refine g9 U (.move rfl<|.extract rfl rfl<|.extract rfl rfl .nil) fun Y U=>plz<|hZ U ao 25 iA rfl fun ax Y ay U ap _ _=>plz (stw U ap 25 hH fun az ae _ =>?_)
 refine gz hK1 U (.assign rfl .nil) fun Y U=>wsk fun K2 hK2 =>?_
 replace U:=U.oz [2,4,5,6,7]
 refine hC U (.move rfl<|.neq rfl rfl .nil) fun Y U=>bc U 15 ?_ ?_
 ·
  intro aa U;try simp only [QQ,Qax] at aa
  refine wct U<|zsr fun K3 hK3=>g9 U (.loadBR ae (i:=20) rfl rfl U51 rfl hH (by simp) (by dsimp only [List.drop,List.take] <;> rfl)<|.move rfl<|.build rfl iL r5 rfl (by dsimp only [iY,List.set] <;> rfl) .nil) fun Y U=>plz (stw U ae 22 hH fun aA aq _ =>?_)
  refine plz (stw U aq 23 iz fun aB ag _ =>?_)
  refine znl<|hK3 _ _<|rtd (lp (fn:=Tryz.f40) U ag (i:=22) (i2:=23) rfl rfl rfl rfl rfl U51 rfl hH U44 rfl iz ?_)
  revert U
  obtain rfl:=tN hR (by assumption)
  intro U
  have ar:=ag.dat 26 rfl (ag.rd (i:=2) rfl)
  exact⟨pins1,e1,0,0,0,_,_,rfl,hR,.inl ⟨by assumption,rfl,rfl,rfl⟩,ar.ren [(1,1),(2,2),(3,3),(6,26)] (by decide)⟩
 intro aa U;try simp only [QQ,Qax] at aa
 refine wcf U<|zss<|hK2 _ _<|wsk fun K4 hK4 =>?_
 have ah:=ae.oz [1,2,3,20,21,22,23,24,25]
 refine region_p 10 (B:=[(25,_)]) (ah.to i1l) ah (by kernel_rfl) (fun aC ac ak =>?_);clear ah
 refine goR ac [0,1,3,4,5,6] [0,1,4,6] 6 0 123 U (ak.to i1l) (.loadBR hh (i:=25) rfl rfl U51 rfl hH (by simp) (by dsimp only [List.drop,List.take] <;> rfl)<|.loadBR hh (i:=25) rfl rfl U51 rfl hH (by simp) (by dsimp only [List.drop,List.take] <;> rfl)<|.fa 8 rfl U51<|.lb hh 25 U2 rfl rfl rfl<|.fa 6 rfl U51<|.lb hh 25 U3 rfl rfl rfl .nil) fun Y U=>so 2 ?_
 refine ecb U Tryz.func39 rfl ak (iH _ _ _ _ _ _ _ _ _ _ _ _ _ _ _ _ _ _) fun Y aD U ai=>⟨ai.to i1l,?_⟩
 refine goA ac [7] 1 127 255 U (ai.to i1l) (.build rfl iL r5 rfl (by dsimp only [iY,List.set] <;> rfl) .nil) fun Y U=>so 8 ?_
 refine stw U ai 22 hH fun aE al _ =>?_
 refine⟨al.to i1l,?_⟩
 refine so 9 ?_
 refine stw U al 23 iz fun aF aj _ =>?_
 refine⟨aj.to i1l,?_⟩
 refine wad<|hK4 _ _<|rtd (lp (fn:=Tryz.f40) U aj (i:=22) (i2:=23) rfl rfl rfl rfl rfl U51 rfl hH U44 rfl iz ?_)
 revert U
 obtain rfl:e1=0:=by first|assumption|omega
 intro U
 exact⟨pins1,0,ws.length,fl,ne,_,_,by rw[List.length_map],hR,.inr ⟨rfl,rfl,rfl,rfl⟩,aj.ren [(1,1),(2,2),(3,3),(6,24)] (by decide)⟩
theorem zl(X)(vo bl sz pe to ne fl:Int)(hi)(place pins:List Int)(ws:List (Int×List (Int×List Int)))(pp pn pw:Option Addr)(cp cn9 cw:Nat)(v1 v2 v3 v4 v5 at0 v6:Int)(q1 n1 c1 q2 n2 c2 w0)(hp:pins.length≤900000)(m0:MemOk X w0 [(1,.dat (.slice pp place.length cp) (.ns .i64 place)),(2,.dat (.slice pn pins.length cn9) (.ns .i64 pins)),(3,.dat (.slice pw (ws.map wrD).length cw) (.l 2 (ws.map wrD)))] w0) :
   Calls Tryz.prog 40 #[.agg #[.int .i64 vo,.int .i64 bl,.int .i64 sz,.int .i64 pe,.slice pp place.length cp,.int .i64 to,.int .i64 ne,.bool hi,.int .i64 fl,.slice pn pins.length cn9,.slice pw (ws.map wrD).length cw],.agg #[.int .i64 5,.int .i64 v1,.int .i64 v2,.int .i64 v3,.int .i64 v4,.slice q1 n1 c1,.int .i64 v5,.int .i64 at0,.int .i64 v6,.slice q2 n2 c2]] w0 fun e w' => ∃ (pins':List Int) (e9 rl rf rn:Int) (p2':Option Addr) (d2':Nat),e=.returned (.tuple #[.agg #[.int .i64 vo,.int .i64 bl,.int .i64 sz,.int .i64 pe,.slice pp place.length cp,.int .i64 to,.int .i64 ne,.bool hi,.int .i64 fl,.slice p2' pins'.length d2',.slice pw (ws.map wrD).length cw],.agg #[.int .i64 e9,.int .i64 rl,.int .i64 rf,.int .i64 rn,.slice none 0 0]])∧jm hi at0 pins=(pins',e9)∧((e9≠0∧rl=0∧rf=0∧rn=0)∨(e9=0∧rl=ws.length∧rf=fl∧rn=ne))∧MemOk X w0 [(1,.dat (.slice pp place.length cp) (.ns .i64 place)),(2,.dat (.slice pn pins.length cn9) (.ns .i64 pins)),(3,.dat (.slice pw (ws.map wrD).length cw) (.l 2 (ws.map wrD))),(6,.dat (.slice p2' pins'.length d2') (.ns .i64 pins'))] w':=by
 refine iZ Tryz.func40 rfl Tryz.ntmps40 fun Y U=>zsr fun K0 hK0=>plz<|iu U m0 20 (cs:=[_,_,_,_,_,_,_,_,_,_,_]) rfl rfl rfl fun g1 Y w2 U m2 _ _=>plz<|iu U m2 21 (cs:=[_,_,_,_,_,_,_,_,_,_]) rfl rfl rfl fun g3 Y w4 U m4 _ _=>plz<|hZ U m4 22 iA rfl fun g5 Y w6 U m6 _ _=>plz<|hZ U m6 23 iL rfl fun g7 Y w8 U m8 _ _=>znl<|hK0 _ _<|zsr fun K1 hK1=>g9 U (.loadBR m8 (i:=20) rfl rfl U51 rfl hH (by simp) (by dsimp only [List.drop,List.take] <;> rfl)<|.loadBR m8 (i:=21) rfl rfl U38 rfl ip (by simp) (by dsimp only [List.drop,List.take] <;> rfl) .nil) fun Y U=>plz (ecl U Tryz.func89 rfl (yj _ _ _ _ _ _ _ _ _ place pins ws _ _ _ _ _ _ _ _ _ _ _ _ _ _ _ _ _ _ _ _ hp (m8.into [(1,1),(2,2),(3,3)] (by decide) rfl)) ?_)
 rintro e au ⟨pins1,e1,av,aw,rfl,hR,ab⟩
 have ad:=m8.back ab [(1,1),(2,2),(3,3),(24,6)] (by decide);clear ab m8
 have ao:=ad.oz [1,2,3,24,20,21,22,23]
 refine⟨_,rfl,?_⟩;intro Y U
 refine g9 U (.move rfl<|.extract rfl rfl<|.extract rfl rfl .nil) fun Y U=>plz<|hZ U ao 25 iA rfl fun ax Y ay U ap _ _=>plz (stw U ap 25 hH fun az ae _ =>?_)
 refine gz hK1 U (.assign rfl .nil) fun Y U=>wsk fun K2 hK2 =>?_
 replace U:=U.oz [2,4,5,6,7]
 refine hC U (.move rfl<|.neq rfl rfl .nil) fun Y U=>bc U 15 ?_ ?_
 ·
  intro aa U;try simp only [QQ,Qax] at aa
  refine wct U<|zsr fun K3 hK3=>g9 U (.loadBR ae (i:=20) rfl rfl U51 rfl hH (by simp) (by dsimp only [List.drop,List.take] <;> rfl)<|.move rfl<|.build rfl iL r6 rfl (by dsimp only [iY,List.set] <;> rfl) .nil) fun Y U=>plz (stw U ae 22 hH fun aA aq _ =>?_)
  refine plz (stw U aq 23 iz fun aB ag _ =>?_)
  refine znl<|hK3 _ _<|rtd (lp (fn:=Tryz.f40) U ag (i:=22) (i2:=23) rfl rfl rfl rfl rfl U51 rfl hH U44 rfl iz ?_)
  revert U
  obtain rfl:=qi hR (by assumption)
  intro U
  have ar:=ag.dat 26 rfl (ag.rd (i:=2) rfl)
  exact⟨pins1,e1,0,0,0,_,_,rfl,hR,.inl ⟨by assumption,rfl,rfl,rfl⟩,ar.ren [(1,1),(2,2),(3,3),(6,26)] (by decide)⟩
 intro aa U;try simp only [QQ,Qax] at aa
 refine wcf U<|zss<|hK2 _ _<|wsk fun K4 hK4 =>?_
 have ah:=ae.oz [1,2,3,20,21,22,23,24,25]
 refine region_p 10 (B:=[(25,_)]) (ah.to i1l) ah (by kernel_rfl) (fun aC ac ak =>?_);clear ah
 refine goR ac [0,1,3,4,5,6] [0,1,4,6] 6 0 123 U (ak.to i1l) (.loadBR hh (i:=25) rfl rfl U51 rfl hH (by simp) (by dsimp only [List.drop,List.take] <;> rfl)<|.loadBR hh (i:=25) rfl rfl U51 rfl hH (by simp) (by dsimp only [List.drop,List.take] <;> rfl)<|.fa 8 rfl U51<|.lb hh 25 U2 rfl rfl rfl<|.fa 6 rfl U51<|.lb hh 25 U3 rfl rfl rfl .nil) fun Y U=>so 2 ?_
 refine ecb U Tryz.func39 rfl ak (iH _ _ _ _ _ _ _ _ _ _ _ _ _ _ _ _ _ _) fun Y aD U ai=>⟨ai.to i1l,?_⟩
 refine goA ac [7] 1 127 255 U (ai.to i1l) (.build rfl iL r6 rfl (by dsimp only [iY,List.set] <;> rfl) .nil) fun Y U=>so 8 ?_
 refine stw U ai 22 hH fun aE al _ =>?_
 refine⟨al.to i1l,?_⟩
 refine so 9 ?_
 refine stw U al 23 iz fun aF aj _ =>?_
 refine⟨aj.to i1l,?_⟩
 refine wad<|hK4 _ _<|rtd (lp (fn:=Tryz.f40) U aj (i:=22) (i2:=23) rfl rfl rfl rfl rfl U51 rfl hH U44 rfl iz ?_)
 revert U
 obtain rfl:e1=0:=by first|assumption|omega
 intro U
 exact⟨pins1,0,ws.length,fl,ne,_,_,by rw[List.length_map],hR,.inr ⟨rfl,rfl,rfl,rfl⟩,aj.ren [(1,1),(2,2),(3,3),(6,24)] (by decide)⟩
theorem qk(l:List (Int×List Int))(p)(nn c:Nat)(w0:World)(h0:Rd (fun _=>True) w0 (.slice p nn c) (.l 2 (l.map itD)))(hl:l.length≤140737488351232) :
   Calls Tryz.prog 43 #[.slice p nn c] w0 fun e w' => ∃ b:Bool,e=.returned (.bool b)∧(b=true→SmallI l)∧Below w0.heap.size w0 w':=by
 obtain rfl:nn=l.length:=by obtain⟨pq,cq,hv,_⟩:=h0.l_shape;injection hv with _ e2 _;rw[List.length_map] at e2;exact e2
 refine i9 Tryz.func43 rfl Tryz.ntmps43 fun Y U =>?_
 have m0:=MemOk.start (fun _=>False) w0
 refine hC U (.assign rfl .nil) fun Y U=>wsk fun K0 hK0=>hC U (.move rfl<|.len rfl U36<|.gtr rfl rfl .nil) fun Y U=>bc U 6 ?_ ?_
 ·
  intro hb5 U;try simp only [QQ,Qax] at hb5
  refine wct U<|hC U (.assign rfl .nil) fun Y U=>rt1 U ?_
  exact⟨false,rfl,(fun h=>by cases h),m0.below⟩
 intro hb5 U;try simp only [QQ,Qax] at hb5
 refine wcf U<|zss<|hK0 _ _<|wsk fun K1 hK1=>hC U (.assign rfl .nil) fun Y U=>wp_block<|wp_loop_ghost (fun g a w => ∃ k:Nat,k≤l.length∧g=l.length - k∧(∀ j,j<k→(l.getD j i0).2.length≤40)∧Has 20 [(0,.slice p l.length c),(3,.int .i64 k)] a∧MemOk (cn w0) w0 [] w) (l.length) ?_ ?_
 · exact⟨0,Nat.zero_le _,rfl,(fun j hj=>by omega),U.only [0,3],m0.only []⟩
 clear U m0
 rintro g Y w8 ⟨k,hkl,hg,hall,U,m8⟩
 refine wsk fun K2 hK2=>hC U (.move rfl<|.move rfl<|.len rfl U36<|.lss rfl rfl .nil) fun Y U=>bc U 10 ?_ ?_
 ·
  intro ab U;try simp only [QQ,Qax] at ab
  have hk:k<l.length:=by omega
  obtain⟨⟨xb,xd⟩,hes⟩:∃ e,l[k]? = some e:=⟨_,List.getElem?_eq_getElem hk⟩
  refine wct U<|zss<|hK2 _ _<|wsk fun K3 hK3=>wp_block<|zsr fun K4 hK4=>g9 U (.move rfl<|.move rfl .nil) fun Y U =>?_
  obtain⟨aj,ak,al,ag,ao,ah,ae⟩:=h0.extA (k) (r:=[.v (.int .i64 xb),.ns .u8 xd]) (iB hes)
  revert U
  cases ag
  rcases ah with _|⟨aa,_|⟨ac,_|_⟩⟩
  obtain rfl:=aa.v_out
  clear aa
  obtain⟨aq,ar,ai,ap⟩:=ac.ns_shape;subst ai
  intro U
  refine gz hK4 U (.c rfl (fun _ h_=>ii h_ rfl rfl U36 jA (k) rfl hk)<|.fieldAddrQ 1 rfl U59 rfl (s:=0) (by kernel_rfl) rfl<|.loadAt1 (ae m8 rfl) (q:=1) rfl rfl rfl U22 rfl<|.len rfl U22<|.gtr rfl rfl<|.nil) fun Y U=>bc U 19 ?_ ?_
  ·
   intro ad U;try simp only [QQ,Qax] at ad
   refine wct U ?_
   replace U:=U.oz [0,3]
   refine hC U (.assign rfl .nil) fun Y U=>rt1 U ?_
   exact⟨false,rfl,(fun h=>by cases h),m8.below⟩
  intro ad U;try simp only [QQ,Qax] at ad
  refine wcf U<|zss (hK3 _ _ ?_)
  replace U:=U.oz [0,3]
  refine wp_region_lit<|g9 U (.move rfl<|.inc (k+1)<|.assign rfl .nil) fun Y U=>wpList_nil ?_
  show ∃ n',n'<_∧_
  exact⟨l.length - (k+1),by omega,k+1,by omega,rfl,qj hall hes (by omega),U.only [0,3],m8.only []⟩
 intro ab U;try simp only [QQ,Qax] at ab
 have hkl9:k=l.length:=by omega
 refine wcf U<|wp_exit<|hK1 _ _<|hC U (.assign rfl .nil) fun Y U=>rt1 U ?_
 exact⟨true,rfl,(fun _=>⟨by omega,r7 (by rw[hkl9] at hall;exact hall)⟩),m8.below⟩
theorem qb(kd vo bl sz pe to at0 ix:Int)(place:List Int)(items:List (Int×List Int))(pp pi)(cp ni ci:Nat)(w0:World)(h0:Rd (fun _=>True) w0 (.slice pp place.length cp) (.ns .i64 place))(h1:Rd (fun _=>True) w0 (.slice pi ni ci) (.l 2 (items.map itD)))(hl:items.length≤140737488351232) :
   Calls Tryz.prog 11 #[.agg #[.int .i64 kd,.int .i64 vo,.int .i64 bl,.int .i64 sz,.int .i64 pe,.slice pp place.length cp,.int .i64 to,.int .i64 at0,.int .i64 ix,.slice pi ni ci]] w0 fun e w' => ∃ b:Bool,e=.returned (.bool b)∧(b=true→place.length≤40∧SmallI items)∧Below w0.heap.size w0 w':=by
 refine i9 Tryz.func11 rfl Tryz.ntmps11 fun Y U =>?_
 have m0:=MemOk.start (fun _=>False) w0
 refine zsr fun K0 hK0=>plz<|iu U m0 20 (cs:=[_,_,_,_,_,_,_,_,_,_]) rfl rfl rfl fun g1 Y w2 U m2 _ _=>gz hK0 U (.assign rfl .nil) fun Y U=>zsr fun K1 hK1=>g9 U (.fa 5 rfl U38<|.lb m2 20 U35 rfl rfl rfl<|.len rfl U35<|.leq rfl rfl<|.move rfl .nil) fun Y U=>bc U 7 ?_ ?_
 ·
  intro aa U;try simp only [QQ,Qax] at aa
  refine g9 U (.faZ 9 rfl U38<|.loadB1Z m2 (i:=20) rfl rfl rfl U36 rfl .nil) fun Y U=>stz U (ecl U Tryz.func43 rfl (qk items _ _ _ _ ((h1.now' m2 rfl).any) hl) ?_)
  rintro e ad ⟨sb,rfl,hsb,ab⟩
  have ac:=m2.later ab
  refine⟨_,rfl,?_⟩;intro Y U
  refine gz hK1 U (.pickT rfl rfl<|.assign rfl<|.nil) fun Y U=>rt1 U ?_
  exact⟨_,rfl,(fun h=>⟨by omega,hsb h⟩),ac.below⟩
 intro aa U;try simp only [QQ,Qax] at aa
 refine gz hK1 U (.sk<|.sk<|.sk<|.pickF rfl rfl<|.assign rfl<|.nil) fun Y U=>rt1 U ?_
 exact⟨_,rfl,(fun h=>by first|(cases h;done)|(simp at h)),m2.below⟩
theorem rz(e9 rl rf rn)(w0:World) :
   Calls Tryz.prog 13 #[.agg #[.int .i64 e9,.int .i64 rl,.int .i64 rf,.int .i64 rn,.slice none 0 0],.agg #[.int .i64 e9,.int .i64 rl,.int .i64 rf,.int .i64 rn,.slice none 0 0]] w0 fun e w'=>e=.returned (.bool true)∧Below w0.heap.size w0 w':=by
 refine iZ Tryz.func13 rfl Tryz.ntmps13 fun Y U =>?_
 have m0:=MemOk.start (fun _=>False) w0
 refine zsr fun K0 hK0=>plz<|iu U m0 20 (cs:=[_,_,_,_,_]) rfl rfl rfl fun g1 Y w2 U m2 _ _=>plz<|iu U m2 21 (cs:=[_,_,_,_,_]) rfl rfl rfl fun g3 Y w4 U m4 _ _=>gz hK0 U (.assign rfl .nil) fun Y U=>zsr fun K1 hK1=>g9 U (.fa 0 rfl U44<|.lb m4 20 U42 rfl rfl rfl<|.fa 0 rfl U44<|.lb m4 21 U42 rfl rfl rfl<|.eql rfl rfl<|.move rfl .nil) fun Y U=>bcT U 10 fun U=>g9 U (.faZ 1 rfl U44<|.loadB1Z m4 (i:=20) rfl rfl rfl U2 rfl<|.faZ 1 rfl U44<|.loadB1Z m4 (i:=21) rfl rfl rfl U2 rfl<|.eqlZ rfl rfl<|.pickT rfl rfl<|.move rfl .nil) fun Y U=>bcT U 17 fun U=>g9 U (.faZ 2 rfl U44<|.loadB1Z m4 (i:=20) rfl rfl rfl U2 rfl<|.faZ 2 rfl U44<|.loadB1Z m4 (i:=21) rfl rfl rfl U2 rfl<|.eqlZ rfl rfl<|.pickT rfl rfl<|.move rfl .nil) fun Y U=>bcT U 24 fun U=>g9 U (.faZ 3 rfl U44<|.loadB1Z m4 (i:=20) rfl rfl rfl U3 rfl<|.faZ 3 rfl U44<|.loadB1Z m4 (i:=21) rfl rfl rfl U3 rfl<|.eqlZ rfl rfl<|.pickT rfl rfl<|.move rfl .nil) fun Y U=>bcT U 31 fun U=>gz hK1 U (.faZ 4 rfl U44<|.loadB1Z m4 (i:=20) rfl rfl rfl U22 rfl<|.strZ rfl (IsNums.nil _ _ _ _) U22 U5 U9<|.faZ 4 rfl U44<|.loadB1Z m4 (i:=21) rfl rfl rfl U22 rfl<|.strZ rfl (IsNums.nil _ _ _ _) U22 U5 U9<|.eqlSZ rfl rfl<|.pickT rfl rfl<|.assign rfl<|.nil) fun Y U=>rt1 U ?_
 exact⟨by simp,m4.below⟩
end
section
abbrev PI:=Int×List Int
abbrev PWr:=Int×List PI
theorem io{fl:Int}{pins:List Int}:jT fl n pins pins.length↔pins.Pairwise (·≤·)∧∀ p∈pins,fl≤p∧p≤n:=by
 constructor
 · intro h
   have hadj:∀ j,j+1<pins.length→pins.getD j 0≤pins.getD (j+1) 0:=fun j hj=>(h (j+1) hj).1
   have hmono:∀ d i,i+d<pins.length→pins.getD i 0≤pins.getD (i+d) 0:=by
     intro d
     induction d with
     | zero=>intro i _;exact Int.le_refl _
     | succ d ih=>intro i hi;have h1:=ih i (by omega);have h2:=hadj (i+d) (by omega);rw[Nat.add_assoc] at h2;omega
   refine⟨List.pairwise_iff_getElem.2 (fun i j hi hj hij =>?_),fun p hp =>?_⟩
   · have h1:=hmono (j - i) i (by omega)
     rw[show i+(j - i)=j by omega,List.getD,List.getD,List.getElem?_eq_getElem hi,List.getElem?_eq_getElem hj] at h1
     exact h1
   obtain⟨j,hj,rfl⟩:=List.getElem_of_mem hp
   have h0:fl≤pins.getD 0 0:=(h 0 (by omega)).1
   have h1:=hmono j 0 (by omega)
   have h2:=(h j hj).2
   rw[Nat.zero_add] at h1
   rw[show pins[j]=pins.getD j 0 by rw[List.getD,List.getElem?_eq_getElem hj];rfl]
   omega
 rintro⟨h1,h2⟩ j hj
 have hm:pins.getD j 0∈pins:=iy hj
 refine⟨?_,(h2 _ hm).2⟩
 cases j with
 | zero=>exact(h2 _ hm).1
 | succ j =>
   show pins.getD j 0≤pins.getD (j+1) 0
   rw[List.getD,List.getD,List.getElem?_eq_getElem (by omega),List.getElem?_eq_getElem hj]
   exact List.pairwise_iff_getElem.1 h1 j (j+1) (by omega) hj (by omega)
theorem wD{pins:List Int}:nO n pins≤n∧∀ p∈pins,nO n pins≤p:=by
 unfold nO
 have key:∀ (l:List Int) (x:Int),l.foldl min x≤x∧∀ p∈l,l.foldl min x≤p:=by
   intro l
   induction l with
   | nil=>intro x;exact⟨Int.le_refl _,fun p hp=>by cases hp⟩
   | cons y r ih =>
     intro x
     obtain⟨h1,h2⟩:=ih (min x y)
     refine⟨by simp only [List.foldl_cons];omega,fun p hp =>?_⟩
     simp only [List.foldl_cons]
     rcases List.mem_cons.1 hp with rfl|hp
     · omega
     exact h2 p hp
 exact key pins n
theorem ql{bl sz:Int}{ws:List PWr}{it:List PI}(h:lj bl sz ws ws.length)(hI:kb bl sz it):lj bl sz (ws++[((ws.length:Int)+1,it)]) (ws.length+1):=fun j hj=>by
 rcases Nat.lt_or_ge j ws.length with h1|h1
 · have h2:=h j h1
   rw[show(ws++[((ws.length:Int)+1,it)]).getD j w1=ws.getD j w1 by simp [List.getD,List.getElem?_append,h1]]
   exact h2
 obtain rfl:j=ws.length:=by omega
 rw[show(ws++[((ws.length:Int)+1,it)]).getD ws.length w1=((ws.length:Int)+1,it) by simp [List.getD]]
 exact⟨rfl,hI⟩
section
variable {vo bl sz pe to ne fl:Int} {hi:Bool} {place pins:List Int} {ws:List PWr}
theorem VolR.sorted(h:VolR vo bl sz pe to ne fl hi place pins ws):pins.Pairwise (·≤·):=by
 obtain⟨h1,h2,h3,h4,h5,h6,h7,h8,h9⟩:=h
 exact(io.1 h8).1
theorem VolR.write(h:VolR vo bl sz pe to ne fl hi place pins ws){it:List PI}(hI:kb bl sz it):VolR vo bl sz pe to ne fl hi place pins (ws++[((ws.length:Int)+1,it)]):=by
 obtain⟨h1,h2,h3,h4,h5,h6,h7,h8,h9⟩:=h
 refine⟨h1,h2,h3,h4,h5,h6,by rw[List.length_append];simp;omega,?_,by rw[List.length_append];exact ql h9 hI⟩
 obtain⟨g1,g2⟩:=io.1 h8
 exact io.2 ⟨g1,fun p hp=>by have:=g2 p hp;rw[List.length_append];simp;omega⟩
theorem VolR.do(h:VolR vo bl sz pe to ne fl hi place pins ws)(hh:hi=true→pins=[]){kd at0 ix:Int}{it:List PI}{ne' fl' e9:Int}{ws':List PWr}(hd:doR bl sz to ne fl hi pins ws kd at0 ix it=(ne',hi',fl',ws',e9)) :
   VolR vo bl sz pe to ne' fl' hi' place pins ws'∧(hi'=true→pins=[])∧ws'.length≤ws.length+1:=by
 have hsame:VolR vo bl sz pe to ne fl hi place pins ws∧(hi=true→pins=[])∧ws.length≤ws.length+1:=⟨h,hh,by omega⟩
 unfold doR at hd
 split at hd
 · unfold q5 at hd
   split at hd
   · simp only [Prod.mk.injEq] at hd;obtain⟨rfl,rfl,rfl,rfl,rfl⟩:=hd;exact hsame
   unfold wrR at hd
   split at hd
   · rename_i hI
     simp only [Prod.mk.injEq] at hd;obtain⟨rfl,rfl,rfl,rfl,rfl⟩:=hd
     exact⟨h.write hI,hh,by simp⟩
   simp only [Prod.mk.injEq] at hd;obtain⟨rfl,rfl,rfl,rfl,rfl⟩:=hd;exact hsame
 split at hd
 · unfold ka at hd
   split at hd
   · rename_i hr
     simp only [Prod.mk.injEq] at hd;obtain⟨rfl,rfl,rfl,rfl,rfl⟩:=hd
     unfold iJ at hr
     split at hr
     · cases hr
     split at hr
     · cases hr
     split at hr
     · cases hr
     rename_i a1 a2 a3
     obtain⟨h1,h2,h3,h4,h5,h6,h7,h8,h9⟩:=h
     have hl:=@wD ws.length pins
     obtain⟨g1,g2⟩:=io.1 h8
     exact⟨⟨h1,h2,h3,h4,h5,by omega,by omega,io.2 ⟨g1,fun p hp=>by have b1:=hl.2 p hp;have b2:=g2 p hp;omega⟩,h9⟩,hh,by omega⟩
   simp only [Prod.mk.injEq] at hd;obtain⟨rfl,rfl,rfl,rfl,rfl⟩:=hd;exact hsame
 split at hd
 · unfold takeR at hd
   split at hd
   · simp only [Prod.mk.injEq] at hd;obtain⟨rfl,rfl,rfl,rfl,rfl⟩:=hd;exact hsame
   split at hd
   · simp only [Prod.mk.injEq] at hd;obtain⟨rfl,rfl,rfl,rfl,rfl⟩:=hd;exact hsame
   split at hd
   · simp only [Prod.mk.injEq] at hd;obtain⟨rfl,rfl,rfl,rfl,rfl⟩:=hd;exact hsame
   rename_i b1 b2 b3
   by_cases hI:kb bl sz it
   · rw[show wrR bl sz ws it=(ws++[((ws.length:Int)+1,it)],0) from by rw[wrR,if_pos hI]] at hd
     rw[if_pos rfl] at hd
     simp only [Prod.mk.injEq] at hd;obtain⟨rfl,rfl,rfl,rfl,rfl⟩:=hd
     obtain⟨h1,h2,h3,h4,h5,h6,h7,h8,h9⟩:=h.write hI
     refine⟨⟨h1,by omega,?_,h4,fun e=>absurd e b1,h6,h7,h8,h9⟩,hh,by simp⟩
     have:ne≠to:=fun e=>b3 (.inr e)
     omega
   rw[show wrR bl sz ws it=(ws,23) from by rw[wrR,if_neg hI]] at hd
   rw[if_neg (by simp)] at hd
   simp only [Prod.mk.injEq] at hd;obtain⟨rfl,rfl,rfl,rfl,rfl⟩:=hd;exact hsame
 split at hd
 · unfold jd at hd
   split at hd
   · simp only [Prod.mk.injEq] at hd;obtain⟨rfl,rfl,rfl,rfl,rfl⟩:=hd;exact hsame
   rename_i b1
   simp only [Prod.mk.injEq] at hd;obtain⟨rfl,rfl,rfl,rfl,rfl⟩:=hd
   obtain⟨h1,h2,h3,h4,h5,h6,h7,h8,h9⟩:=h
   have e1:hi=true:=by cases hi with|true=>rfl|false=>exact absurd (.inl rfl) b1
   have e2:ne=to:=by
     by_cases e:ne=to
     · exact e
     exact absurd (.inr e) b1
   have e3:=hh e1
   subst e3
   exact⟨⟨h1,h2,h3,(fun e=>by cases e),(fun _=>e2),by omega,by omega,(fun j hj=>by simp at hj),h9⟩,(fun e=>by cases e),by omega⟩
 split at hd
 · simp only [Prod.mk.injEq] at hd;obtain⟨rfl,rfl,rfl,rfl,rfl⟩:=hd;exact hsame
 simp only [Prod.mk.injEq] at hd;obtain⟨rfl,rfl,rfl,rfl,rfl⟩:=hd;exact hsame
theorem VolR.pin(h:VolR vo bl sz pe to ne fl hi place pins ws)(hh:hi=true→pins=[]){at0 e9:Int}{pins':List Int}(hd:l5 hi fl at0 ws.length pins=(pins',e9)) :
   VolR vo bl sz pe to ne fl hi place pins' ws∧(hi=true→pins'=[])∧pins'.length≤pins.length+1:=by
 unfold l5 at hd
 split at hd
 · rename_i hr
   simp only [Prod.mk.injEq] at hd;obtain⟨rfl,rfl⟩:=hd
   unfold iJ at hr
   split at hr
   · cases hr
   split at hr
   · cases hr
   split at hr
   · cases hr
   rename_i a1 a2 a3
   obtain⟨h1,h2,h3,h4,h5,h6,h7,h8,h9⟩:=h
   obtain⟨g1,g2⟩:=io.1 h8
   refine⟨⟨h1,h2,h3,h4,h5,h6,h7,io.2 ⟨jO _,fun p hp =>?_⟩,h9⟩,fun e=>absurd e a1,by simp [li]⟩
   rw[li,List.mem_mergeSort] at hp
   rcases List.mem_append.1 hp with hp|hp
   · exact g2 p hp
   simp at hp;subst hp;omega
 simp only [Prod.mk.injEq] at hd;obtain⟨rfl,rfl⟩:=hd
 exact⟨h,hh,by omega⟩
theorem VolR.unpin(h:VolR vo bl sz pe to ne fl hi place pins ws)(hh:hi=true→pins=[]){at0 e9:Int}{pins':List Int}(hd:jm hi at0 pins=(pins',e9)) :
   VolR vo bl sz pe to ne fl hi place pins' ws∧(hi=true→pins'=[])∧pins'.length≤pins.length+1:=by
 unfold jm at hd
 split at hd
 · simp only [Prod.mk.injEq] at hd;obtain⟨rfl,rfl⟩:=hd
   exact⟨h,hh,by omega⟩
 rename_i b1
 simp only [Prod.mk.injEq] at hd;obtain⟨rfl,rfl⟩:=hd
 obtain⟨h1,h2,h3,h4,h5,h6,h7,h8,h9⟩:=h
 obtain⟨g1,g2⟩:=io.1 h8
 have hs:(pins.take (Lib.idxOf pins at0).toNat++pins.drop ((Lib.idxOf pins at0).toNat+1)).Sublist pins:=by
   rw[← List.eraseIdx_eq_take_drop_succ];exact List.eraseIdx_sublist _ _
 exact⟨⟨h1,h2,h3,h4,h5,h6,h7,io.2 ⟨g1.sublist hs,fun p hp=>g2 p (hs.subset hp)⟩,h9⟩,fun e=>absurd (.inl e) b1,by have:=hs.length_le;omega⟩
theorem VolR.its(h:VolR vo bl sz pe to ne fl hi place pins ws):kK ws∧(∀ e∈ws,e.2.length≤8):=by
 obtain⟨⟨a1,a2,a3,a4,a5,a6,a7⟩,h2,h3,h4,h5,h6,h7,h8,h9⟩:=h
 have key:∀ e∈ws,e.2.length≤8∧∀ x∈e.2,x.2.length≤32:=fun e he=>by
   obtain⟨j,hj,rfl⟩:=List.getElem_of_mem he
   have h10:=(h9 j hj).2
   rw[List.getD,List.getElem?_eq_getElem hj] at h10
   refine⟨h10.2.1,fun x hx =>?_⟩
   obtain⟨i,hi,rfl⟩:=List.getElem_of_mem hx
   have h11:=(h10.2.2 i hi).2.2.1
   simp only [Option.getD_some] at h11
   rw[List.getD,List.getElem?_eq_getElem hi] at h11
   simp only [Option.getD_some] at h11
   omega
 exact⟨fun e he=>⟨Nat.le_trans (key e he).1 (by decide),fun x hx=>Nat.le_trans ((key e he).2 x hx) (by decide)⟩,fun e he=>(key e he).1⟩
theorem VolR.new{vo bl sz pe to:Int}{place:List Int}(hN:iQ vo bl sz pe to place):VolR vo bl sz pe to 0 0 (decide (0<to)) place [] []:=by
 have hN':=hN
 obtain⟨h1,h2,h3,h4,h5,h6,h7,h8,h9,h10,h11⟩:=hN'
 exact⟨hN,by omega,by omega,(fun e=>by simp at e;omega),(fun e=>by simp at e;omega),by omega,by simp,(fun j hj=>by simp at hj),(fun j hj=>by simp at hj)⟩
end
end
section
theorem lD{α:Type}(vs:List α)(hv:vs.length=mm):∀ (cs:List (List α)) (J:Nat),(∀ c∈cs,c.length=mm)→J<cs.length→cs.flatten.take (J*mm)++vs++cs.flatten.drop (J*mm+mm)=(cs.set J vs).flatten
 | [],J,_,h=>by simp at h
 | a :: cs,0,hc,h=>by
   have ha:=hc a (by simp)
   rw[List.set_cons_zero,List.flatten_cons,List.flatten_cons,Nat.zero_mul,Nat.zero_add,List.take_zero,List.nil_append,List.drop_left' ha]
 | a :: cs,J+1,hc,h=>by
   have ha:=hc a (by simp)
   have ih:=lD vs hv cs J (fun c h=>hc c (by simp [h])) (by simpa using h)
   have e1:(J+1)*mm=a.length+J*mm:=by rw[ha,Nat.add_mul];omega
   rw[List.set_cons_succ,List.flatten_cons,List.flatten_cons,← ih,e1,Nat.add_assoc,List.take_append,List.drop_append,List.take_of_length_le (by omega),List.drop_of_length_le (by omega)]
   rw[show a.length+J*mm - a.length=J*mm by omega,show a.length+(J*mm+mm) - a.length=J*mm+mm by omega]
   simp
section
variable {P:Program} {n:Nat} {T:List (Nat×Value)} {a:Act} {w w0:World} {X:Cx} {M:Mm} {tt:TypeId} {pos:String} {af:Array Edge} {gd:Option (Nat×Bool)} {Q:Exit→Act→World→Prop} {K:Act→World→Prop}
end
end
section
structure VolV where
 vo:Int
 bl:Int
 sz:Int
 pe:Int
 place:List Int
 to:Int
 ne:Int
 hi:Bool
 fl:Int
 pins:List Int
 ws:List PWr
def ij(x:VolV):List D:=[.v (.int .i64 x.vo),.v (.int .i64 x.bl),.v (.int .i64 x.sz),.v (.int .i64 x.pe),.ns .i64 x.place,.v (.int .i64 x.to),.v (.int .i64 x.ne),.v (.bool x.hi),.v (.int .i64 x.fl),.ns .i64 x.pins,.l 2 (x.ws.map wrD)]
theorem iT{L:List VolV}{k:Nat}{x:VolV}(h:L[k]? = some x):(L.map ij)[k]? = some [.v (.int .i64 x.vo),.v (.int .i64 x.bl),.v (.int .i64 x.sz),.v (.int .i64 x.pe),.ns .i64 x.place,.v (.int .i64 x.to),.v (.int .i64 x.ne),.v (.bool x.hi),.v (.int .i64 x.fl),.ns .i64 x.pins,.l 2 (x.ws.map wrD)]:=by simp [h,ij]
def WBy(ws:List PWr):Prop:=∀ e∈ws,∀ x∈e.2,BytesL x.2
theorem WBy.snoc{s:Int}{it:List PI}(h:WBy ws)(hi:∀ e∈it,BytesL e.2):WBy (ws++[(s,it)]):=fun e he=>by
 rcases List.mem_append.1 he with h1|h1
 · exact h e h1
 rw[List.mem_singleton.1 h1];exact hi
theorem xS{bl sz to ne fl:Int}{kd at0 ix:Int}{it:List PI}{ne' fl' e9:Int}(h:doR bl sz to ne fl hi pins ws kd at0 ix it=(ne',hi',fl',ws',e9))(hw:WBy ws)(hb:∀ e∈it,BytesL e.2):WBy ws':=by
 unfold doR q5 ka takeR jd wrR at h
 repeat' split at h
 all_goals (simp only [Prod.mk.injEq] at h;obtain⟨-,-,-,rfl,-⟩:=h;first|exact hw|exact hw.snoc hb)
def VolS(n:Nat)(x:VolV):Prop:=VolR x.vo x.bl x.sz x.pe x.to x.ne x.fl x.hi x.place x.pins x.ws∧(x.hi=true→x.pins=[])∧x.pins.length≤n∧x.ws.length≤n∧WBy x.ws
theorem VolS.up(h:VolS n x)(hm:n≤m):VolS m x:=⟨h.1,h.2.1,by have:=h.2.2.1;omega,by have:=h.2.2.2.1;omega,h.2.2.2.2⟩
def MacS(n:Nat)(L:List VolV):Prop:=L.length≤n∧∀ x∈L,VolS n x
theorem MacS.set{L:List VolV}(h:MacS n L)(hx:VolS (n+1) x)(k):MacS (n+1) (L.set k x):=⟨by rw[List.length_set];have:=h.1;omega,fun y hy=>by
 rcases List.mem_or_eq_of_mem_set hy with hy|rfl
 · exact(h.2 y hy).up (by omega)
 exact hx⟩
theorem MacS.up(h:MacS n L)(hm:n≤m):MacS m L:=⟨by have:=h.1;omega,fun x hx=>(h.2 x hx).up hm⟩
theorem y3(X B)(L:List VolV)(p)(c:Nat)(vo w0)(hl:L.length≤1000000)(m0:MemOk X w0 [(1,.box B 32 [.slice p (L.map ij).length c]),(2,.dat (.slice p (L.map ij).length c) (.l 11 (L.map ij)))] w0) :
   Calls Tryz.prog 49 #[.pointer (some ⟨B,0,none⟩),.int .i64 vo] w0 fun e w' => ∃ j:Int,e=.returned (.int .i64 j)∧-1≤j∧j<L.length∧MemOk X w0 [(1,.box B 32 [.slice p (L.map ij).length c]),(2,.dat (.slice p (L.map ij).length c) (.l 11 (L.map ij)))] w':=by
 refine iZ Tryz.func49 rfl Tryz.ntmps49 fun Y U=>hC U (.assign rfl .nil) fun Y U=>wsk fun K0 hK0=>hC U (.assign rfl .nil) fun Y U=>wp_block<|wp_loop_ghost (fun g a w => ∃ (k:Nat),k≤L.length∧g=L.length - k∧Has 26 [(0,.pointer (some ⟨B,0,none⟩)),(1,.int .i64 vo),(5,.int .i64 k)] a∧MemOk X w0 [(1,.box B 32 [.slice p (L.map ij).length c]),(2,.dat (.slice p (L.map ij).length c) (.l 11 (L.map ij)))] w) (L.length) ?_ ?_
 · exact⟨0,Nat.zero_le _,rfl,U.only [0,1,5],m0.only [1,2]⟩
 clear U m0
 rintro g Y w3 ⟨k,hkl,hg,U,m3⟩
 refine wsk fun K1 hK1=>hC U (.move rfl<|.move rfl<|.nilCheck rfl<|.fa 0 rfl U32<|.lb m3 1 U30 rfl rfl rfl<|.len rfl U30<|.lss rfl rfl .nil) fun Y U=>bc U 12 ?_ ?_
 ·
  intro ao U;try simp only [QQ,Qax] at ao
  have hk:k<L.length:=by have:=ao;simp at this;omega
  obtain⟨x,hes⟩:∃ x,L[k]? = some x:=⟨_,List.getElem?_eq_getElem (by simpa using hk)⟩
  refine wct U<|zss<|hK1 _ _<|wsk fun K2 hK2=>wp_block ?_
  replace U:=U.oz [0,1,5]
  refine zsr fun K3 hK3=>g9 U (.move rfl<|.nilCheck rfl<|.fa 0 rfl U32<|.lb m3 1 U30 rfl rfl rfl<|.move rfl .nil) fun Y U =>?_
  obtain⟨aG,aH,aC,ar,au,av,az⟩:=m3.openR (i:=2) rfl (k) (r:=[.v (.int .i64 x.vo),.v (.int .i64 x.bl),.v (.int .i64 x.sz),.v (.int .i64 x.pe),.ns .i64 x.place,.v (.int .i64 x.to),.v (.int .i64 x.ne),.v (.bool x.hi),.v (.int .i64 x.fl),.ns .i64 x.pins,.l 2 (x.ws.map wrD)]) (iT hes) 100 rfl
  revert U
  cases ar;clear m3 av
  rcases au with _|⟨ad,_|⟨ae,_|⟨ag,_|⟨ah,_|⟨ab,_|⟨ai,_|⟨aj,_|⟨ak,_|⟨al,_|⟨ac,_|⟨aa,_|_⟩⟩⟩⟩⟩⟩⟩⟩⟩⟩⟩
  obtain rfl:=ad.v_out
  clear ad
  obtain rfl:=ae.v_out
  clear ae
  obtain rfl:=ag.v_out
  clear ag
  obtain rfl:=ah.v_out
  clear ah
  obtain⟨aI,aJ,aw,aD⟩:=ab.ns_shape;subst aw
  intro U
  have aA:=az.dat 101 rfl (ab.cast (fun _ h=>(ia rfl h)));clear az ab
  revert U
  obtain rfl:=ai.v_out
  clear ai
  obtain rfl:=aj.v_out
  clear aj
  obtain rfl:=ak.v_out
  clear ak
  obtain rfl:=al.v_out
  clear al
  obtain⟨aK,aL,ax,aE⟩:=ac.ns_shape;subst ax
  intro U
  have aB:=aA.dat 102 rfl (ac.cast (fun _ h=>(ia rfl (ia rfl h))));clear aA ac
  revert U
  obtain⟨aM,aN,ay,aF⟩:=aa.l_shape;subst ay
  intro U
  have aq:=aB.dat 103 rfl (aa.cast (fun _ h=>(ia rfl (ia rfl (ia rfl h)))));clear aB aa
  refine gz hK3 U (.c rfl (fun _ h_=>ii h_ rfl rfl U30 hH (k) rfl (by simpa using hk))<|.fieldAddrQ 0 rfl U51 rfl (s:=0) (by kernel_rfl) rfl<|.loadC0 aq (i:=100) rfl rfl U3 rfl<|.move rfl<|.eql rfl rfl<|.nil) fun Y U=>bc U 24 ?_ ?_
  ·
   intro ap U;try simp only [QQ,Qax] at ap
   refine wct U ?_
   replace U:=U.oz [0,1,5]
   refine hC U (.move rfl<|.assign rfl .nil) fun Y U=>rt1 U ?_
   first|exact⟨k,rfl,by omega,by omega,aq.only [1,2]⟩|exact⟨-1,rfl,by omega,by omega,aq.only [1,2]⟩
  intro ap U;try simp only [QQ,Qax] at ap
  refine wcf U<|zss (hK2 _ _ ?_)
  replace U:=U.oz [0,1,5]
  refine wp_region_lit<|g9 U (.move rfl<|.inc (k+1)<|.assign rfl .nil) fun Y U=>wpList_nil ?_
  show ∃ n',n'<_∧_
  exact⟨L.length - (k+1),by omega,k+1,by omega,rfl,U.only [0,1,5],aq.only [1,2]⟩
 intro ao U;try simp only [QQ,Qax] at ao
 refine wcf U<|wp_exit<|hK0 _ _ ?_
 replace U:=U.oz [0,1,5]
 refine hC U (.assign rfl .nil) fun Y U=>rt1 U ?_
 first|exact⟨k,rfl,by omega,by omega,m3.only [1,2]⟩|exact⟨-1,rfl,by omega,by omega,m3.only [1,2]⟩
end
section

end
section

end
section

end
section
section
variable {P:Program} {ops:Array Oper} {Q:Exit→Act→World→Prop} {md:Region.Mode} {listed:Array Bool} {fuel e:Nat} {S:World→Prop} {a:Act} {w:World}
theorem uD(i j k){oi oj ok:Oper}(hi:ops[i]? = some oi)(hj:ops[j]? = some oj)(hk:ops[k]? = some ok)(hr:Region.ready md ops listed=[i,j,k])(hwi:Region.wanted oi (Go.yielded ops a.tmps)=true)(hwj:Region.wanted oj (Go.yielded ops a.tmps)=true)(hwk:Region.wanted ok (Go.yielded ops a.tmps)=true)(h1:∀ K':Act→World→Prop,(∀ a' w',((listed.setIfInBounds i true).getD e false=false→S w')→ik P md ops Q e S fuel (listed.setIfInBounds i true) a' w'→K' a' w')→Oper.wp P oi a w K' Q)(h2:∀ K':Act→World→Prop,(∀ a' w',((listed.setIfInBounds j true).getD e false=false→S w')→ik P md ops Q e S fuel (listed.setIfInBounds j true) a' w'→K' a' w')→Oper.wp P oj a w K' Q)(h3:∀ K':Act→World→Prop,(∀ a' w',((listed.setIfInBounds k true).getD e false=false→S w')→ik P md ops Q e S fuel (listed.setIfInBounds k true) a' w'→K' a' w')→Oper.wp P ok a w K' Q) :
   ik P md ops Q e S (fuel+1) listed a w:=by
 refine⟨fun h0=>absurd (hr ▸ h0) (by simp),fun q hq =>?_⟩
 rw[hr] at hq
 rcases List.mem_cons.1 hq with rfl|hq
 · refine wpOp_step hi (fun K' hK =>?_)
   rw[if_pos hwi]
   exact h1 K' (fun a' w' h hn=>hK a' w' ⟨h,hn⟩)
 rcases List.mem_cons.1 hq with rfl|hq
 · refine wpOp_step hj (fun K' hK =>?_)
   rw[if_pos hwj]
   exact h2 K' (fun a' w' h hn=>hK a' w' ⟨h,hn⟩)
 obtain rfl:q=k:=by simpa using hq
 refine wpOp_step hk (fun K' hK =>?_)
 rw[if_pos hwk]
 exact h3 K' (fun a' w' h hn=>hK a' w' ⟨h,hn⟩)
end
section
variable {P:Program} {n:Nat} {T:List (Nat×Value)} {a:Act} {w w0:World} {X:Cx} {M:Mm} {tt:TypeId} {pos:String} {af:Array Edge} {gd:Option (Nat×Bool)} {Q:Exit→Act→World→Prop} {K:Act→World→Prop}
theorem qH(ha:Has n T a)(m:MemOk X w0 M w)(i){g l c mm:Nat}{t e:TypeId}{rows:List (List D)}{xs:Array Value}(hm:lk M i=some (.row (.slice (some ⟨g,0,none⟩) l c) e mm rows))(J)(hJ:J<rows.length)(hx:evT T x=some (.pointer (some ⟨g,q',none⟩)))(hq':q'=0+J*mm)(hy:evT T y=some (.agg xs))(hv:xs.toList.all (fun v=>v.oneCell')=true)(hl:xs.size=mm)(hs:(P.info? t).map (·.size)=some xs.size)(hdd:RdL (jt X M) w xs.toList dd)(h:∀ w',MemOk X w0 ((i,.row (.slice (some ⟨g,0,none⟩) l c) e mm (rows.set J dd)) :: M) w'→K a w'):Oper.wp P ⟨none,.store t x y,tt,pos,af,gd⟩ a w K Q:=by
 obtain⟨cs,h1,h2,h3,h4,h5⟩:=m.ok i _ hm
 subst hq'
 have hJc:cs[J]? = some cs[J]:=List.getElem?_eq_getElem (by omega)
 rcases h1.2 with ⟨e1,_⟩|⟨g',cap,cur,e1,hg',hbk,hnc,hcm,hcs,htk⟩
 · cases e1
 injection e1 with e1 e2 e3
 injection e1 with e1
 injection e1 with e1 e4
 subst e1;subst e2;subst e3
 obtain⟨o,ho⟩:∃ o:Nat,o=0:=⟨0,rfl⟩
 have htk:(cur.toList.drop o).take (rows.length*mm)=cs.flatten:=by rw[ho];simpa using htk
 have hJm:J*mm+mm≤rows.length*mm:=by
   calc J*mm+mm=(J+1)*mm:=by rw[Nat.add_mul];omega
     _≤rows.length*mm:=Nat.mul_le_mul_right _ (by omega)
 have hcapm:rows.length*mm≤c*mm:=Nat.mul_le_mul_right _ hnc
 have hb:Blk w g e cur.toList:=by unfold Blk;rw[Array.toArray_toList];exact hbk
 have hcl:cur.toList.length=cur.size:=Array.length_toList
 have hxl:xs.toList.length=mm:=by rw[Array.length_toList,hl]
 obtain⟨w',hrn,hb',hk⟩:=jc (P:=P) hb (o+J*mm) t xs.toList (by rw[hxl];omega) (by simpa using hs) (List.all_eq_true.1 hv)
 have hrun:(execOp a.eval ⟨none,.store t x y,tt,pos,af,gd⟩).run P w=.ok .skip w':=by
   have hr':(Instr.storeAt t (.pointer (some ⟨g,J*mm,none⟩)) (.agg xs)).run P w=.ok () w':=by rw[ho,Nat.zero_add] at hrn;simpa using hrn
   have hx':evT T x=some (.pointer (some ⟨g,J*mm,none⟩)):=by rw[hx,Nat.zero_add]
   simp [execOp,ha.ev hx',ha.ev hy,hr']
 show Oper.upon P _ a K Q _
 rw[hrun]
 rw[hxl] at hb'
 have hlen:(rows.set J dd).length=rows.length:=List.length_set ..
 have hdl:dd.length=mm:=by rw[← hdd.len,hxl]
 have hkeep:Keep (fun b => ∃ r,lk M i=some r∧r.blk=some b) w w':=(hk (fun b=>b=g) rfl).mono (fun b e=>⟨_,hm,by rw[show b=g from e];rfl⟩)
 refine h w' (m.upd i _ hkeep (fun b hb=>.inl ⟨_,hm,hb⟩) (fun hf _=>⟨cs.set J xs.toList,?_,by rw[List.length_set,h2,hlen],fun c' hc' =>?_,fun r' hr' =>?_,fun j q2 c' r' x' d a1 a2 a3 a4 =>?_⟩))
 · have hfl:cs.flatten.length=rows.length*mm:=h1.1
   rw[hlen,← lD xs.toList hxl cs J (fun c hc=>(h3 c hc).1) (by omega)]
   refine⟨by simp only [List.length_append,List.length_take,List.length_drop,hxl,hfl];omega,.inr ⟨g,c,(cur.toList.take (o+J*mm)++xs.toList++cur.toList.drop (o+J*mm+mm)).toArray,rfl,hg',hb',hnc,hcm,?_,?_⟩⟩
   · simp only [List.size_toArray,List.length_append,List.length_take,List.length_drop,hxl,hcl];omega
   rw[← htk]
   show List.take (rows.length*mm) (cur.toList.take (o+J*mm)++xs.toList++cur.toList.drop (o+J*mm+mm))=_
   rw[show(cur.toList.take (o+J*mm)++xs.toList++cur.toList.drop (o+J*mm+mm))=(cur.toList.take (o+J*mm)++xs.toList++cur.toList.drop (o+J*mm+mm)).drop o by rw[ho,List.drop_zero]]
   generalize rows.length*mm=N at *
   generalize J*mm=j at *
   apply List.ext_getElem?
   intro k
   rw[List.getElem?_take]
   by_cases hkN:k<N
   · rw[if_pos hkN,List.getElem?_drop]
     by_cases k1:k<j
     · rw[List.getElem?_append_left (by simp;omega),List.getElem?_append_left (by simp;omega),List.getElem?_take_of_lt (by omega)]
       rw[List.getElem?_append_left (by simp;omega),List.getElem?_append_left (by simp;omega),List.getElem?_take_of_lt (by omega),List.getElem?_take_of_lt (by omega),List.getElem?_drop]
     by_cases k2:k<j+mm
     · rw[List.getElem?_append_left (by simp;omega),List.getElem?_append_right (by simp;omega)]
       rw[List.getElem?_append_left (by simp;omega),List.getElem?_append_right (by simp;omega)]
       congr 1;simp;omega
     rw[List.getElem?_append_right (by simp;omega),List.getElem?_append_right (by simp;omega)]
     simp only [List.getElem?_drop,List.length_append,List.length_take,List.length_drop,hxl,hcl]
     rw[List.getElem?_take_of_lt (by omega),List.getElem?_drop]
     congr 1;omega
   rw[if_neg hkN,List.getElem?_eq_none]
   simp only [List.length_append,List.length_take,List.length_drop,hxl,hcl]
   omega
 · rcases List.mem_or_eq_of_mem_set hc' with hc'|rfl
   · exact h3 c' hc'
   exact⟨hxl,List.all_eq_true.1 hv⟩
 · rcases List.mem_or_eq_of_mem_set hr' with hr'|rfl
   · exact h4 r' hr'
   exact hdl
 have hmono:∀ b,b<w.heap.size→jt X M b→w'.heap[b]? = w.heap[b]?∧jt X ((i,Res.row (.slice (some ⟨g,0,none⟩) rows.length c) e mm (rows.set J dd)) :: M) b:=fun b hlt hF=>⟨(hk (fun b=>b=g) rfl).2.2.2.2 b hlt (fun e=>hF.2 ⟨i,_,hm,by rw[show b=g from e];rfl⟩),hf b hlt hF⟩
 have hsz:=hkeep.size
 by_cases hjJ:j=J
 · subst hjJ
   rw[List.getElem?_set_self (by omega)] at a1
   rw[List.getElem?_set_self (by omega)] at a2
   cases a1;cases a2
   exact(hdd.get _ _ _ a3 a4).mono hsz hmono
 rw[List.getElem?_set_ne (by omega)] at a1
 rw[List.getElem?_set_ne (by omega)] at a2
 exact(h5 j q2 c' r' x' d a1 a2 a3 a4).mono hsz hmono
end
section
variable {w w0:World} {X:Cx} {M:Mm}
theorem MemOk.callF2(m:MemOk X w0 M w)(i j){d e:D}(hi:lk M i=none)(hj:lk ((i,.dat u d) :: M) j=none)(hb:Below w.heap.size w w')(h1:Rd (New w) w' u d)(h2:Rd (New w) w' v e):MemOk X w0 ((j,.dat v e) :: (i,.dat u d) :: M) w':=
 (m.callF i hi hb h1).dat j hj (h2.cast (fun b hb=>ia rfl (m.free_out (.inr hb))))
theorem MemOk.callF3(m:MemOk X w0 M w)(i j k){d e f:D}(hi:lk M i=none)(hj:lk ((i,.dat u d) :: M) j=none)(hk:lk ((j,.dat v e) :: (i,.dat u d) :: M) k=none)(hb:Below w.heap.size w w')(h1:Rd (New w) w' u d)(h2:Rd (New w) w' v e)(h3:Rd (New w) w' t f):MemOk X w0 ((k,.dat t f) :: (j,.dat v e) :: (i,.dat u d) :: M) w':=
 (m.callF2 i j hi hj hb h1 h2).dat k hk (h3.cast (fun b hb=>ia rfl (ia rfl (m.free_out (.inr hb)))))
end
section
variable {P:Program} {ops:Array Oper} {Q:Exit→Act→World→Prop} {a:Act} {w:World} {md:Region.Mode} {e fuel:Nat} {S:World→Prop} {listed:Array Bool}
theorem dth(i j k){oi oj ok:Oper}(h1:Oper.wp P oi a w (fun a' w'=>((listed.setIfInBounds i true).getD e false=false→S w')∧ik P md ops Q e S fuel (listed.setIfInBounds i true) a' w') Q)(h2:Oper.wp P oj a w (fun a' w'=>((listed.setIfInBounds j true).getD e false=false→S w')∧ik P md ops Q e S fuel (listed.setIfInBounds j true) a' w') Q)(h3:Oper.wp P ok a w (fun a' w'=>((listed.setIfInBounds k true).getD e false=false→S w')∧ik P md ops Q e S fuel (listed.setIfInBounds k true) a' w') Q)(hi:ops[i]? = some oi:=by rfl)(hj:ops[j]? = some oj:=by rfl)(hk:ops[k]? = some ok:=by rfl)(hr:Region.ready md ops listed=[i,j,k]:=by kernel_rfl)(hwi:Region.wanted oi (Go.yielded ops a.tmps)=true:=by rfl)(hwj:Region.wanted oj (Go.yielded ops a.tmps)=true:=by rfl)(hwk:Region.wanted ok (Go.yielded ops a.tmps)=true:=by rfl):ik P md ops Q e S (fuel+1) listed a w:=
  uD i j k hi hj hk hr hwi hwj hwk (fun _ hK=>Oper.wp_mono (fun a' w' h=>hK a' w' h.1 h.2) h1) (fun _ hK=>Oper.wp_mono (fun a' w' h=>hK a' w' h.1 h.2) h2) (fun _ hK=>Oper.wp_mono (fun a' w' h=>hK a' w' h.1 h.2) h3)
end
end
section
theorem ym:iO Tryz.prog 51 [.int .i64 0,.int .i64 0,.int .i64 0,.int .i64 0,.slice none 0 0,.int .i64 0,.int .i64 0,.bool false,.int .i64 0,.slice none 0 0,.slice none 0 0]=true:=by kernel_rfl
def jM:VolV:=⟨0,0,0,0,[],0,0,false,0,[],[]⟩
def i5(vo bl sz pe to:Int)(place:List Int):VolV:=⟨vo,bl,sz,pe,place,to,0,decide (0<to),0,[],[]⟩
theorem tY{vo bl sz pe to:Int}(hN:iQ vo bl sz pe to place):VolS n (i5 vo bl sz pe to place):=⟨VolR.new hN,fun _=>rfl,Nat.zero_le _,Nat.zero_le _,fun _ h=>by cases h⟩
theorem Rd.capL{S:Nat→Prop}{w:World}{l c m:Nat}{rows:List (List D)}(h:Rd S w (.slice p l c) (.l m rows)):rows.length≤c:=by
 obtain⟨pq,cq,hv,hc⟩:=h.l_shape
 injection hv with _ _ e3;omega
theorem itok{d:List Int}(h:d.length≤32):d.length≤140737488351232:=by omega
theorem sR(kd vo bl sz pe to at0 ix:Int)(place:List Int)(pp pi)(cp ni ci:Nat)(w0:World)(h0:Rd (fun _=>True) w0 (.slice pp place.length cp) (.ns .i64 place))(hn:place.length≤1000000)(hN:¬ iQ vo bl sz pe to place) :
   Calls Tryz.prog 50 #[.agg #[.int .i64 kd,.int .i64 vo,.int .i64 bl,.int .i64 sz,.int .i64 pe,.slice pp place.length cp,.int .i64 to,.int .i64 at0,.int .i64 ix,.slice pi ni ci]] w0 fun e w'=>e=.returned (.tuple #[.agg #[.int .i64 0,.int .i64 0,.int .i64 0,.int .i64 0,.slice none 0 0,.int .i64 0,.int .i64 0,.bool false,.int .i64 0,.slice none 0 0,.slice none 0 0],.int .i64 23])∧Below w0.heap.size w0 w':=
 (pM kd vo bl sz pe to at0 ix place pp pi cp ni ci w0 h0 hn).mono (fun _ _ h=>h.elim (fun h=>absurd h.1 hN) (fun h=>h.2))
theorem yJ(X B)(L:List VolV)(p)(c:Nat)(vo w0)(hl:L.length≤1000000)(m0:MemOk X w0 [(1,.box B 32 [.slice p (L.map ij).length c]),(2,.dat (.slice p (L.map ij).length c) (.l 11 (L.map ij)))] w0) :
   Calls Tryz.prog 19 #[.pointer (some ⟨B,0,none⟩),.int .i64 vo] w0 fun e w' => ∃ (x:VolV) (there:Bool) (p1 p2 p3:Option Addr) (d1 d2 d3:Nat),e=.returned (.tuple #[.agg #[.int .i64 x.vo,.int .i64 x.bl,.int .i64 x.sz,.int .i64 x.pe,.slice p1 x.place.length d1,.int .i64 x.to,.int .i64 x.ne,.bool x.hi,.int .i64 x.fl,.slice p2 x.pins.length d2,.slice p3 (x.ws.map wrD).length d3],.bool there])∧(there=true→x∈L)∧(there=false→x=jM)∧MemOk X w0 [(1,.box B 32 [.slice p (L.map ij).length c]),(2,.dat (.slice p (L.map ij).length c) (.l 11 (L.map ij))),(3,.dat (.slice p1 x.place.length d1) (.ns .i64 x.place)),(4,.dat (.slice p2 x.pins.length d2) (.ns .i64 x.pins)),(5,.dat (.slice p3 (x.ws.map wrD).length d3) (.l 2 (x.ws.map wrD)))] w':=by
 refine iZ Tryz.func19 rfl Tryz.ntmps19 fun Y U=>zsr fun K0 hK0=>plz<|hZ U m0 20 iA rfl fun g1 Y w2 U m2 _ _=>gz hK0 U (.assign rfl .nil) fun Y U=>zsr fun K1 hK1=>g9 U (.move rfl<|.move rfl .nil) fun Y U=>plz (ecl U Tryz.func49 rfl (y3 _ _ L _ _ _ _ hl (m2.into [(1,1),(2,2)] (by decide) rfl)) ?_)
 rintro e w8 ⟨j,rfl,hj1,hj2,hm8⟩
 have mx8:=m2.back hm8 [(1,1),(2,2)] (by decide);clear hm8 m2
 have m8:=mx8.oz [1,2,20]
 refine⟨_,rfl,?_⟩;intro Y U
 refine gz hK1 U (.assign rfl .nil) fun Y U=>wsk fun K2 hK2=>hC U (.move rfl<|.lss rfl rfl .nil) fun Y U=>bc U 11 ?_ ?_
 ·
  intro ao U;try simp only [QQ,Qax] at ao
  refine wct U ?_
  replace U:=U.oz [0,4,5,6]
  refine zsr fun K3 hK3=>g9 U (.build rfl iA ym rfl (by dsimp only [iY,List.set] <;> rfl) .nil) fun Y U=>plz (stw U m8 20 hH fun aH ax _ =>?_)
  refine gz hK3 U (.assign rfl .nil) fun Y U=>rtd (iF (fn:=Tryz.f19) U ax (i:=20) rfl rfl rfl rfl U51 rfl hH ?_)
  have mA:=ax.dat 91 rfl (Rd.nilN _ _ .i64 none)
  have mB:=mA.dat 92 rfl (Rd.nilN _ _ .i64 none)
  have mC:=mB.dat 93 rfl (Rd.l0 none 0 2)
  exact⟨jM,false,_,_,_,_,_,_,rfl,(fun h=>by cases h),(fun _=>rfl),mC.ren [(1,1),(2,2),(3,91),(4,92),(5,93)] (by decide)⟩
 intro ao U;try simp only [QQ,Qax] at ao
 revert U
 obtain⟨jn,rfl⟩:∃ jn:Nat,j=(jn:Int):=⟨j.toNat,by omega⟩
 intro U
 have hjl:jn<L.length:=by omega
 obtain⟨x,hes⟩:∃ x,L[jn]? = some x:=⟨_,List.getElem?_eq_getElem hjl⟩
 refine wcf U<|zss (hK2 _ _ ?_)
 replace U:=U.oz [0,4,5,6]
 refine zsr fun K4 hK4=>g9 U (.move rfl<|.nilCheck rfl<|.fa 0 rfl U32<|.lb m8 1 U30 rfl rfl rfl<|.move rfl .nil) fun Y U =>?_
 obtain⟨aI,aJ,aD,ap,aq,ar,ay⟩:=m8.openR (i:=2) rfl (jn) (r:=[.v (.int .i64 x.vo),.v (.int .i64 x.bl),.v (.int .i64 x.sz),.v (.int .i64 x.pe),.ns .i64 x.place,.v (.int .i64 x.to),.v (.int .i64 x.ne),.v (.bool x.hi),.v (.int .i64 x.fl),.ns .i64 x.pins,.l 2 (x.ws.map wrD)]) (iT hes) 21 rfl
 revert U
 cases ap;clear m8 ar
 rcases aq with _|⟨ad,_|⟨ae,_|⟨ag,_|⟨ah,_|⟨ab,_|⟨ai,_|⟨aj,_|⟨ak,_|⟨al,_|⟨ac,_|⟨aa,_|_⟩⟩⟩⟩⟩⟩⟩⟩⟩⟩⟩
 obtain rfl:=ad.v_out
 clear ad
 obtain rfl:=ae.v_out
 clear ae
 obtain rfl:=ag.v_out
 clear ag
 obtain rfl:=ah.v_out
 clear ah
 obtain⟨aK,aL,au,aE⟩:=ab.ns_shape;subst au
 intro U
 have az:=ay.dat 22 rfl (ab.cast (fun _ h=>(ia rfl h)));clear ay ab
 revert U
 obtain rfl:=ai.v_out
 clear ai
 obtain rfl:=aj.v_out
 clear aj
 obtain rfl:=ak.v_out
 clear ak
 obtain rfl:=al.v_out
 clear al
 obtain⟨aM,aN,av,aF⟩:=ac.ns_shape;subst av
 intro U
 have aA:=az.dat 23 rfl (ac.cast (fun _ h=>(ia rfl (ia rfl h))));clear az ac
 revert U
 obtain⟨aO,aP,aw,aG⟩:=aa.l_shape;subst aw
 intro U
 have aB:=aA.dat 24 rfl (aa.cast (fun _ h=>(ia rfl (ia rfl (ia rfl h)))));clear aA aa
 refine g9 U (.c rfl (fun _ h_=>ii h_ rfl rfl U30 hH (jn) rfl (by simpa using hjl))<|.loadCR aB (i:=21) rfl rfl U51 rfl hH .nil) fun Y U=>plz (stw U aB 20 hH fun aQ aC _ =>?_)
 refine gz hK4 U (.assign rfl .nil) fun Y U=>rtd (iF (fn:=Tryz.f19) U aC (i:=20) rfl rfl rfl rfl U51 rfl hH ?_)
 exact⟨x,true,_,_,_,_,_,_,rfl,(fun _=>List.mem_of_getElem? hes),(fun h=>by cases h),aC.ren [(1,1),(2,2),(3,22),(4,23),(5,24)] (by decide)⟩
end
end Go.Proofs.YtkehgingagggaaaGreat.K
