/- General laws of walks. -/
import Derived.Test.YteglmahnkfgelaaGreatG9
namespace Go.Proofs.YteglmahnkfgelaaGreat.K
open Go.ChangeShapes Go.WideShapes Go.ChangeAt Go.RowKit
set_option linter.unusedVariables false
set_option linter.unusedSimpArgs false
set_option maxRecDepth 100000
set_option maxHeartbeats 4000000
set_option autoImplicit true
set_option relaxedAutoImplicit true
section
theorem yV{l:List Int}{k:Nat}{a:Int}(h:∀ j,j<k→l.getD j 0≤a)(hk:l.getD k 0≤a):∀ j,j<k+1→l.getD j 0≤a:=fun j hj=>by
 rcases Nat.lt_or_ge j k with h1|h1
 · exact h j h1
 obtain rfl:j=k:=by omega
 exact hk
theorem yW{l:List Int}{k:Nat}{a:Int}(h:∀ j,j<k→l.getD j 0≠a)(hk:¬ l.getD k 0=a):∀ j,j<k+1→l.getD j 0≠a:=fun j hj=>by
 rcases Nat.lt_or_ge j k with h1|h1
 · exact h j h1
 obtain rfl:j=k:=by omega
 exact hk
theorem oZ(l:List Int):(qK l).Pairwise (·≤·):=by
 have h:=List.pairwise_mergeSort (le:=fun(x y:Int)=>decide (x≤y)) (fun a b c h1 h2=>by simp at h1 h2 ⊢;omega) (fun a b=>by simp;omega) l
 exact h.imp (fun h=>by simpa using h)
theorem nT{pins:List Int}{at0:Int}{k:Nat}(hs:pins.Pairwise (·≤·))(hall:∀ j,j<k→pins.getD j 0≤at0)(hkl:k≤pins.length)(hnx:k=pins.length∨at0<pins.getD k 0):pins.take k++[at0]++pins.drop k=qK (pins++[at0]):=by
 refine List.Perm.eq_of_pairwise (le:=(·≤·)) (fun a b _ _ h1 h2=>by omega) ?_ (oZ _) ?_
 · rw[List.append_assoc,List.pairwise_append]
   refine⟨hs.sublist (List.take_sublist _ _),?_,?_⟩
   · rw[List.singleton_append,List.pairwise_cons]
     refine⟨fun b hb =>?_,hs.sublist (List.drop_sublist _ _)⟩
     rcases hnx with rfl|hnx
     · rw[List.drop_length] at hb;cases hb
     obtain⟨j,hj,rfl⟩:=List.getElem_of_mem hb
     rw[List.length_drop] at hj
     rw[List.getElem_drop]
     have h1:pins.getD k 0≤pins[k+j]:=by
       rw[List.getD,List.getElem?_eq_getElem (by omega)]
       rcases Nat.eq_zero_or_pos j with rfl|hj0
       · exact Int.le_refl _
       exact List.pairwise_iff_getElem.1 hs k (k+j) (by omega) (by omega) (by omega)
     omega
   intro a ha b hb
   obtain⟨j,hj,rfl⟩:=List.getElem_of_mem ha
   rw[List.length_take] at hj
   rw[List.getElem_take]
   have h1:pins[j]≤at0:=by have:=hall j (by omega);rwa [List.getD,List.getElem?_eq_getElem (by omega)] at this
   rcases List.mem_append.1 hb with hb|hb
   · simp at hb;omega
   obtain⟨i,hi,rfl⟩:=List.getElem_of_mem hb
   rw[List.length_drop] at hi
   rw[List.getElem_drop]
   exact List.pairwise_iff_getElem.1 hs j (k+i) (by omega) (by omega) (by omega)
 refine List.Perm.trans ?_ (List.mergeSort_perm _ _).symm
 rw[List.append_assoc]
 refine(List.Perm.append_left _ (List.perm_append_comm)).trans ?_
 rw[← List.append_assoc,List.take_append_drop]
theorem AB(X:Cx)(vo bl sz pe to ne fl:Int)(hi:Bool)(place pins:List Int)(ws:List (Int×List (Int×List Int)))(items:List (Int×List Int))(pp pn pw:Option Addr)(cp cn9 cw:Nat)(pi:Option Addr)(ci:Nat)(kd v1 v2 v3 v4 v5 at0 ix:Int)(q1:Option Addr)(n1 c1:Nat)(w0:World)(hk4:kd≠4)(hk5:kd≠5)(hne : -1000000000000000≤ne∧ne≤1000000000000000)(hl:ws.length≤900000)(hp:pins.length≤1000000)(hil:items.length≤1000000)(hio:rx items)(m0:MemOk X w0 [(1,.dat (.slice pp place.length cp) (.ns .i64 place)),(2,.dat (.slice pn pins.length cn9) (.ns .i64 pins)),(3,.dat (.slice pw (ws.map wrD).length cw) (.l 2 (ws.map wrD))),(4,.dat (.slice pi items.length ci) (.l 2 (items.map itD)))] w0) :
   Calls Tryz.prog 121 #[.agg #[.int .i64 vo,.int .i64 bl,.int .i64 sz,.int .i64 pe,.slice pp place.length cp,.int .i64 to,.int .i64 ne,.bool hi,.int .i64 fl,.slice pn pins.length cn9,.slice pw (ws.map wrD).length cw],.agg #[.int .i64 kd,.int .i64 v1,.int .i64 v2,.int .i64 v3,.int .i64 v4,.slice q1 n1 c1,.int .i64 v5,.int .i64 at0,.int .i64 ix,.slice pi items.length ci]] w0 fun e w' => ∃ (ne':Int) (hi':Bool) (fl':Int) (ws':List (Int×List (Int×List Int))) (e9:Int) (p3':Option Addr) (d3':Nat),e=.returned (.tuple #[.agg #[.int .i64 vo,.int .i64 bl,.int .i64 sz,.int .i64 pe,.slice pp place.length cp,.int .i64 to,.int .i64 ne',.bool hi',.int .i64 fl',.slice pn pins.length cn9,.slice p3' (ws'.map wrD).length d3'],.int .i64 e9])∧doR bl sz to ne fl hi pins ws kd at0 ix items=(ne',hi',fl',ws',e9)∧MemOk X w0 [(1,.dat (.slice pp place.length cp) (.ns .i64 place)),(2,.dat (.slice pn pins.length cn9) (.ns .i64 pins)),(3,.dat (.slice pw (ws.map wrD).length cw) (.l 2 (ws.map wrD))),(4,.dat (.slice pi items.length ci) (.l 2 (items.map itD))),(7,.dat (.slice p3' (ws'.map wrD).length d3') (.l 2 (ws'.map wrD)))] w':=by
 refine mR Tryz.func121 rfl Tryz.ntmps121 fun Y U =>?_
 refine zsr fun K0 hK0 =>?_
 refine plz (ly U m0 20 (cs:=[_,_,_,_,_,_,_,_,_,_,_]) rfl rfl rfl fun g1 Y w2 U m2 _ _ =>?_)
 refine plz (ly U m2 21 (cs:=[_,_,_,_,_,_,_,_,_,_]) rfl rfl rfl fun g3 Y w4 U m4 _ _ =>?_)
 refine plz (lc U m4 22 mo rfl fun g5 Y w6 U m6 _ _ =>?_)
 refine gz hK0 U (.assign rfl .nil) fun Y U =>?_
 refine wsk fun K1 hK1 =>?_
 refine la U (.fa 0 rfl lx<|.lb m6 21 U3 rfl rfl rfl .nil) fun Y U =>?_
 refine wp_block ?_
 refine wsk fun K2 hK2 =>?_
 refine la U (.eql rfl rfl<|.assign rfl .nil) fun Y U =>?_
 refine bc U 10 ?_ ?_
 ·
  intro aA U;try simp only [QQ,Qax] at aA
  refine wct U ?_
  refine zss (hK2 _ _ ?_)
  refine wct U ?_
  refine la U (.fa 7 rfl U34<|.lb m6 20 U4 rfl rfl rfl .nil) fun Y U =>?_
  refine bc U 16 ?_ ?_
  ·
   intro aB U;try simp only [QQ,Qax] at aB
   refine wct U ?_
   replace U:=U.oz [2,3,4,5,10,16]
   refine zsr fun K3 hK3 =>?_
   refine k9 U (.loadBR m6 (i:=20) rfl rfl U34 rfl ld (by simp) (by dsimp only [List.drop,List.take] <;> rfl) .nil) fun Y U =>?_
   refine plz (stw U m6 22 ld fun c6 bi _ =>?_)
   refine gz hK3 U (.assign rfl .nil) fun Y U =>?_
   refine rtd (lL (fn:=Tryz.f121) U bi (i:=22) rfl rfl rfl rfl U34 rfl ld ?_)
   have co:=bi.dat 23 rfl (bi.rd (i:=3) rfl)
   exact⟨ne,hi,fl,ws,28,_,_,rfl,by rw[doR,if_pos (by omega),yU,if_pos (by assumption)],co.ren [(1,1),(2,2),(3,3),(4,4),(7,23)] (by decide)⟩
  intro aB U;try simp only [QQ,Qax] at aB
  refine wcf U ?_
  refine zss (hK1 _ _ ?_)
  refine wsk fun K4 hK4 =>?_
  replace U:=U.oz [2,3,4,5,10,16]
  refine la U (.fa 0 rfl lx<|.lb m6 21 U3 rfl rfl rfl .nil) fun Y U =>?_
  refine wp_block ?_
  refine la U (.eql rfl rfl<|.assign rfl .nil) fun Y U =>?_
  refine bc U 21 ?_ ?_
  rotate_left
  · intro hb _;exact absurd hb (by simp;omega)
  clear U;intro _ U
  refine wct U ?_
  refine wsk fun K5 hK5 =>?_
  refine zsr fun K6 hK6 =>?_
  refine k9 U (.fa 1 rfl U34<|.lb m6 20 U3 rfl rfl rfl<|.fa 2 rfl U34<|.lb m6 20 U3 rfl rfl rfl<|.fa 9 rfl lx<|.lb m6 21 U28 rfl rfl rfl .nil) fun Y U =>?_
  refine plz (ecl U Tryz.func49 rfl (mY _ _ items _ _ _ _ ((m6.rd (i:=4) rfl).any) hil) ?_)
  rintro e c7 ⟨ib,rfl,hib,bj⟩
  have aC:=m6.later bj
  refine⟨_,rfl,?_⟩;intro Y U
  refine gz hK6 U (.not rfl .nil) fun Y U =>?_
  refine bc U 30 ?_ ?_
  ·
   intro aD U;try simp only [QQ,Qax] at aD
   refine wct U ?_
   replace U:=U.oz [2,3,4,5,10,16,19,21,30]
   refine zsr fun K7 hK7 =>?_
   refine k9 U (.loadBR aC (i:=20) rfl rfl U34 rfl ld (by simp) (by dsimp only [List.drop,List.take] <;> rfl) .nil) fun Y U =>?_
   refine plz (stw U aC 22 ld fun c8 bk _ =>?_)
   refine gz hK7 U (.assign rfl .nil) fun Y U =>?_
   refine rtd (lL (fn:=Tryz.f121) U bk (i:=22) rfl rfl rfl rfl U34 rfl ld ?_)
   have cq:=bk.dat 23 rfl (bk.rd (i:=3) rfl)
   exact⟨ne,hi,fl,ws,23,_,_,rfl,by rw[doR,if_pos (by omega),yU,if_neg (by simp_all),wrR,if_neg (fun h=>by have h9:=hib.2 h;simp_all)],cq.ren [(1,1),(2,2),(3,3),(4,4),(7,23)] (by decide)⟩
  intro aD U;try simp only [QQ,Qax] at aD
  refine wcf U ?_
  refine zss (hK5 _ _ ?_)
  replace U:=U.oz [2,3,4,5,10,16,19,21,30]
  refine zsr fun K8 hK8 =>?_
  refine k9 U (.loadBR aC (i:=20) rfl rfl U34 rfl ld (by simp) (by dsimp only [List.drop,List.take] <;> rfl)<|.fa 9 rfl lx<|.lb aC 21 U28 rfl rfl rfl .nil) fun Y U =>?_
  refine plz (ecl U Tryz.func124 rfl (pO _ _ _ _ _ _ _ _ _ place pins ws items _ _ _ _ _ _ _ _ _ hl hil hio (aC.into [(1,1),(2,2),(3,3),(4,4)] (by decide) rfl)) ?_)
  rintro e c9 ⟨da,db,rfl,aW⟩
  have bm:=aC.back aW [(1,1),(2,2),(3,3),(4,4),(23,7)] (by decide);clear aW aC
  have cr:=bm.oz [1,2,3,4,23,20,21,22]
  refine⟨_,rfl,?_⟩;intro Y U
  refine plz (stw U cr 22 ld fun dc cm _ =>?_)
  refine gz hK8 U (.assign rfl .nil) fun Y U =>?_
  refine rtd (lL (fn:=Tryz.f121) U cm (i:=22) rfl rfl rfl rfl U34 rfl ld ?_)
  exact⟨ne,hi,fl,(ws++[((ws.length:Int)+1,items)]),0,_,_,rfl,by rw[doR,if_pos (by omega),yU,if_neg (by simp_all),wrR,if_pos (hib.1 (by simp_all))],cm.ren [(1,1),(2,2),(3,3),(4,4),(7,23)] (by decide)⟩
 intro aA U;try simp only [QQ,Qax] at aA
 refine wcf U ?_
 refine la U (.eql rfl rfl<|.assign rfl .nil) fun Y U =>?_
 refine bc U 10 ?_ ?_
 ·
  intro aE U;try simp only [QQ,Qax] at aE
  refine wct U ?_
  refine zss (hK2 _ _ ?_)
  refine wct U ?_
  replace U:=U.oz [2,3,4,5,10]
  refine la U (.fa 7 rfl U34<|.lb m6 20 U4 rfl rfl rfl .nil) fun Y U =>?_
  refine bc U 16 ?_ ?_
  ·
   intro aF U;try simp only [QQ,Qax] at aF
   refine wct U ?_
   refine zsr fun K9 hK9 =>?_
   refine k9 U (.loadBR m6 (i:=20) rfl rfl U34 rfl ld (by simp) (by dsimp only [List.drop,List.take] <;> rfl) .nil) fun Y U =>?_
   refine plz (stw U m6 22 ld fun de bn _ =>?_)
   refine gz hK9 U (.assign rfl .nil) fun Y U =>?_
   refine rtd (lL (fn:=Tryz.f121) U bn (i:=22) rfl rfl rfl rfl U34 rfl ld ?_)
   have ct:=bn.dat 23 rfl (bn.rd (i:=3) rfl)
   exact⟨ne,hi,fl,ws,28,_,_,rfl,by rw[doR,if_neg (by omega),if_pos (by omega),oY];simp_all [lV],ct.ren [(1,1),(2,2),(3,3),(4,4),(7,23)] (by decide)⟩
  intro aF U;try simp only [QQ,Qax] at aF
  refine wcf U ?_
  refine zss (hK1 _ _ ?_)
  refine wsk fun df bo =>?_
  refine la U (.fa 0 rfl lx<|.lb m6 21 U3 rfl rfl rfl .nil) fun Y U =>?_
  refine wp_block ?_
  refine la U (.eql rfl rfl<|.assign rfl .nil) fun Y U =>?_
  refine bc U 21 ?_ ?_
  · intro hb _;exact absurd hb (by simp;omega)
  clear U;intro _ U
  refine wcf U ?_
  refine la U (.eql rfl rfl<|.assign rfl .nil) fun Y U =>?_
  refine bc U 36 ?_ ?_
  rotate_left
  · intro hb _;exact absurd hb (by simp;omega)
  clear U;intro _ U
  refine wct U ?_
  refine wsk fun dg bp =>?_
  refine la U (.fa 7 rfl lx<|.lb m6 21 U2 rfl rfl rfl<|.fa 8 rfl U34<|.lb m6 20 U2 rfl rfl rfl<|.lss rfl rfl .nil) fun Y U =>?_
  refine bc U 42 ?_ ?_
  ·
   intro aG U;try simp only [QQ,Qax] at aG
   refine wct U ?_
   replace U:=U.oz [2,3,4,5,10,16,19,21,36,42]
   refine zsr fun dh bq =>?_
   refine k9 U (.loadBR m6 (i:=20) rfl rfl U34 rfl ld (by simp) (by dsimp only [List.drop,List.take] <;> rfl) .nil) fun Y U =>?_
   refine plz (stw U m6 22 ld fun di br _ =>?_)
   refine gz bq U (.assign rfl .nil) fun Y U =>?_
   refine rtd (lL (fn:=Tryz.f121) U br (i:=22) rfl rfl rfl rfl U34 rfl ld ?_)
   have cu:=br.dat 23 rfl (br.rd (i:=3) rfl)
   exact⟨ne,hi,fl,ws,30,_,_,rfl,by rw[doR,if_neg (by omega),if_pos (by omega),oY];rw[show lV hi fl at0 (s8 ws.length pins)=30 from by rw[lV,if_neg (by simp_all),if_pos (by omega)]];rfl,cu.ren [(1,1),(2,2),(3,3),(4,4),(7,23)] (by decide)⟩
  intro aG U;try simp only [QQ,Qax] at aG
  refine wcf U ?_
  refine zss (bp _ _ ?_)
  refine wsk fun dj bs =>?_
  refine wsk fun dk bt =>?_
  replace U:=U.oz [2,3,4,5,10,16,19,21,36,42]
  have bu:=m6.oz [1,2,3,4,20,21,22]
  refine region_p 5 (B:=[(1,_),(2,_),(3,_),(4,_),(20,_),(21,_),(22,_)]) (bu.to i7l) bu (by kernel_rfl) (fun dl aX bv =>?_);clear bu
  refine goR aX [0,1,2] [1,2] 3 0 7 U (bv.to i7l) (.fa 7 rfl lx<|.lb hh 21 U2 rfl rfl rfl<|.loadBR hh (i:=20) rfl rfl U34 rfl ld (by simp) (by dsimp only [List.drop,List.take] <;> rfl) .nil) fun Y U =>?_
  refine lh 3 rfl (by kernel_rfl) rfl (fun K hK =>?_)
  refine lG U Tryz.func125 rfl rfl rfl rfl (wM _ _ _ _ _ _ _ _ pins _ _ _ _ _ _ _ _ _ ((bv.rd (i:=2) rfl).any) hp) ?_
  rintro e cv ⟨rfl,aY⟩
  rw[List.length_map]
  have ac:=bv.later aY
  refine⟨_,rfl,?_⟩;intro Y U
  refine hK _ _ (ac.to i7l) ?_;clear hK K
  refine goA aX [4] 1 15 31 U (ac.to i7l) (.gtr rfl rfl .nil) fun Y U =>?_
  refine wad ?_
  refine bt _ _ ?_
  refine bc U 48 ?_ ?_
  ·
   intro ad U;try simp only [QQ,Qax] at ad
   refine wct U ?_
   refine zsr fun dm bw =>?_
   refine k9 U (.loadBR ac (i:=20) rfl rfl U34 rfl ld (by simp) (by dsimp only [List.drop,List.take] <;> rfl) .nil) fun Y U =>?_
   refine plz (stw U ac 22 ld fun cy aH _ =>?_)
   refine gz bw U (.assign rfl .nil) fun Y U =>?_
   refine rtd (lL (fn:=Tryz.f121) U aH (i:=22) rfl rfl rfl rfl U34 rfl ld ?_)
   have bx:=aH.dat 23 rfl (aH.rd (i:=3) rfl)
   exact⟨ne,hi,fl,ws,31,_,_,rfl,by rw[doR,if_neg (by omega),if_pos (by omega),oY];rw[show lV hi fl at0 (s8 ws.length pins)=31 from by rw[lV,if_neg (by simp_all),if_neg (by omega),if_pos (by omega)]];rfl,bx.ren [(1,1),(2,2),(3,3),(4,4),(7,23)] (by decide)⟩
  intro ad U;try simp only [QQ,Qax] at ad
  refine wcf U ?_
  refine zss (bs _ _ ?_)
  refine wp_region_lit ?_
  refine k9 U (.fa 7 rfl lx<|.lb ac 21 U2 rfl rfl rfl<|.fa 8 rfl U34 .nil) fun Y U =>?_
  refine plz (st1 U ac 20 l3 fun cz aZ _ =>?_)
  refine znl (bo _ _ ?_)
  replace U:=U.oz [2,4,5,10,16,21,36,42,48]
  refine zsr fun dn bz =>?_
  refine k9 U (.loadBR aZ (i:=20) rfl rfl U34 rfl ld (by simp) (by dsimp only [List.drop,List.take] <;> rfl) .nil) fun Y U =>?_
  refine plz (stw U aZ 22 ld fun cA aI _ =>?_)
  refine gz bz U (.assign rfl .nil) fun Y U =>?_
  refine rtd (lL (fn:=Tryz.f121) U aI (i:=22) rfl rfl rfl rfl U34 rfl ld ?_)
  have bA:=aI.dat 23 rfl (aI.rd (i:=3) rfl)
  exact⟨ne,hi,at0,ws,0,_,_,rfl,by rw[doR,if_neg (by omega),if_pos (by omega),oY];rw[show lV hi fl at0 (s8 ws.length pins)=0 from by rw[lV,if_neg (by simp_all),if_neg (by omega),if_neg (by omega)]];rfl,bA.ren [(1,1),(2,2),(3,3),(4,4),(7,23)] (by decide)⟩
 intro aE U;try simp only [QQ,Qax] at aE
 refine wcf U ?_
 refine la U (.eql rfl rfl<|.assign rfl .nil) fun Y U =>?_
 refine bc U 10 ?_ ?_
 · intro hb _;exact absurd hb (by simp;omega)
 clear U;intro _ U
 refine wcf U ?_
 replace U:=U.oz [2,3,4,5,9,10]
 refine wp_region_lit ?_
 refine gz hK2 U (.eql rfl rfl<|.assign rfl<|.nil) fun Y U =>?_
 refine bc U 10 ?_ ?_
 · intro hb _;exact absurd hb (by simp;omega)
 clear U;intro _ U
 refine wcf U ?_
 refine zss (hK1 _ _ ?_)
 refine wsk fun dp ax =>?_
 refine la U (.fa 0 rfl lx<|.lb m6 21 U3 rfl rfl rfl .nil) fun Y U =>?_
 refine wp_block ?_
 refine la U (.eql rfl rfl<|.assign rfl .nil) fun Y U =>?_
 refine bc U 21 ?_ ?_
 · intro hb _;exact absurd hb (by simp;omega)
 clear U;intro _ U
 refine wcf U ?_
 refine la U (.eql rfl rfl<|.assign rfl .nil) fun Y U =>?_
 refine bc U 36 ?_ ?_
 · intro hb _;exact absurd hb (by simp;omega)
 clear U;intro _ U
 refine wcf U ?_
 refine la U (.eql rfl rfl<|.assign rfl .nil) fun Y U =>?_
 refine bc U 53 ?_ ?_
 · intro hb _;exact absurd hb (by simp;omega)
 clear U;intro _ U
 refine wcf U ?_
 replace U:=U.oz [2,3,4,5,10,19,21,36]
 refine la U (.eql rfl rfl<|.assign rfl .nil) fun Y U =>?_
 refine bc U 99 ?_ ?_
 · intro hb _;exact absurd hb (by simp;omega)
 clear U;intro _ U
 refine wcf U ?_
 refine la U (.eql rfl rfl<|.assign rfl .nil) fun Y U =>?_
 refine bc U 130 ?_ ?_
 ·
  intro ae U;try simp only [QQ,Qax] at ae
  refine wct U ?_
  refine wsk fun dq bB =>?_
  refine la U (.fa 7 rfl U34<|.lb m6 20 U4 rfl rfl rfl<|.not rfl .nil) fun Y U =>?_
  refine bc U 134 ?_ ?_
  ·
   intro ag U;try simp only [QQ,Qax] at ag
   refine wct U ?_
   refine zsr fun dr bC =>?_
   refine k9 U (.loadBR m6 (i:=20) rfl rfl U34 rfl ld (by simp) (by dsimp only [List.drop,List.take] <;> rfl) .nil) fun Y U =>?_
   refine plz (stw U m6 22 ld fun cB aJ _ =>?_)
   refine gz bC U (.assign rfl .nil) fun Y U =>?_
   refine rtd (lL (fn:=Tryz.f121) U aJ (i:=22) rfl rfl rfl rfl U34 rfl ld ?_)
   have bE:=aJ.dat 23 rfl (aJ.rd (i:=3) rfl)
   exact⟨ne,hi,fl,ws,33,_,_,rfl,by rw[doR,if_neg (by omega),if_neg (by omega),if_pos (by omega),takeR,if_pos (by simp_all)],bE.ren [(1,1),(2,2),(3,3),(4,4),(7,23)] (by decide)⟩
  intro ag U;try simp only [QQ,Qax] at ag
  refine wcf U ?_
  refine zss (bB _ _ ?_)
  refine wsk fun ds a0 =>?_
  refine zsr fun dt a1 =>?_
  refine k9 U (.fa 8 rfl lx<|.lb m6 21 U3 rfl rfl rfl<|.geq rfl rfl<|.move rfl .nil) fun Y U =>?_
  refine bc U 139 ?_ ?_
  ·
   intro ah U;try simp only [QQ,Qax] at ah
   refine gz a1 U (.faZ 8 rfl lx<|.loadB1Z m6 (i:=21) rfl rfl rfl U3 rfl<|.faZ 6 rfl U34<|.loadB1Z m6 (i:=20) rfl rfl rfl U3 rfl<|.lssZ rfl rfl<|.pickT rfl rfl<|.nil) fun Y U =>?_
   refine bc U 145 ?_ ?_
   ·
    intro ai U;try simp only [QQ,Qax] at ai
    refine wct U ?_
    replace U:=U.oz [2,3,4,5,10,19,21,36,130,134,139,145]
    refine zsr fun du bF =>?_
    refine k9 U (.loadBR m6 (i:=20) rfl rfl U34 rfl ld (by simp) (by dsimp only [List.drop,List.take] <;> rfl) .nil) fun Y U =>?_
    refine plz (stw U m6 22 ld fun cC aK _ =>?_)
    refine gz bF U (.assign rfl .nil) fun Y U =>?_
    refine rtd (lL (fn:=Tryz.f121) U aK (i:=22) rfl rfl rfl rfl U34 rfl ld ?_)
    have bG:=aK.dat 23 rfl (aK.rd (i:=3) rfl)
    exact⟨ne,hi,fl,ws,0,_,_,rfl,by rw[doR,if_neg (by omega),if_neg (by omega),if_pos (by omega),takeR,if_neg (by simp_all),if_pos (by omega)],bG.ren [(1,1),(2,2),(3,3),(4,4),(7,23)] (by decide)⟩
   intro ai U;try simp only [QQ,Qax] at ai
   refine wcf U ?_
   refine zss (a0 _ _ ?_)
   refine wsk fun dv bH =>?_
   replace U:=U.oz [2,3,4,5,10,19,21,36,130,134,139,145]
   refine zsr fun dw a2 =>?_
   refine k9 U (.fa 8 rfl lx<|.lb m6 21 U3 rfl rfl rfl<|.fa 6 rfl U34<|.lb m6 20 U3 rfl rfl rfl<|.neq rfl rfl<|.move rfl .nil) fun Y U =>?_
   refine bc U 152 ?_ ?_
   ·
    intro aj U;try simp only [QQ,Qax] at aj
    refine gz a2 U (.sk<|.sk<|.sk<|.sk<|.sk<|.pickT rfl rfl<|.nil) fun Y U =>?_
    refine wct U ?_
    replace U:=U.oz [2,3,4,5,10,19,21,36,130,134,139,145,152,158]
    refine zsr fun dx bI =>?_
    refine k9 U (.loadBR m6 (i:=20) rfl rfl U34 rfl ld (by simp) (by dsimp only [List.drop,List.take] <;> rfl) .nil) fun Y U =>?_
    refine plz (stw U m6 22 ld fun cD aL _ =>?_)
    refine gz bI U (.assign rfl .nil) fun Y U =>?_
    refine rtd (lL (fn:=Tryz.f121) U aL (i:=22) rfl rfl rfl rfl U34 rfl ld ?_)
    have bJ:=aL.dat 23 rfl (aL.rd (i:=3) rfl)
    exact⟨ne,hi,fl,ws,33,_,_,rfl,by rw[doR,if_neg (by omega),if_neg (by omega),if_pos (by omega),takeR,if_neg (by simp_all),if_neg (by omega),if_pos (by omega)],bJ.ren [(1,1),(2,2),(3,3),(4,4),(7,23)] (by decide)⟩
   intro aj U;try simp only [QQ,Qax] at aj
   refine gz a2 U (.faZ 6 rfl U34<|.loadB1Z m6 (i:=20) rfl rfl rfl U3 rfl<|.faZ 5 rfl U34<|.loadB1Z m6 (i:=20) rfl rfl rfl U3 rfl<|.eqlZ rfl rfl<|.pickF rfl rfl<|.nil) fun Y U =>?_
   refine bc U 158 ?_ ?_
   ·
    intro ak U;try simp only [QQ,Qax] at ak
    refine wct U ?_
    replace U:=U.oz [2,3,4,5,10,19,21,36,130,134,139,145,152,158]
    refine zsr fun dy bK =>?_
    refine k9 U (.loadBR m6 (i:=20) rfl rfl U34 rfl ld (by simp) (by dsimp only [List.drop,List.take] <;> rfl) .nil) fun Y U =>?_
    refine plz (stw U m6 22 ld fun cE aM _ =>?_)
    refine gz bK U (.assign rfl .nil) fun Y U =>?_
    refine rtd (lL (fn:=Tryz.f121) U aM (i:=22) rfl rfl rfl rfl U34 rfl ld ?_)
    have bL:=aM.dat 23 rfl (aM.rd (i:=3) rfl)
    exact⟨ne,hi,fl,ws,33,_,_,rfl,by rw[doR,if_neg (by omega),if_neg (by omega),if_pos (by omega),takeR,if_neg (by simp_all),if_neg (by omega),if_pos (by omega)],bL.ren [(1,1),(2,2),(3,3),(4,4),(7,23)] (by decide)⟩
   intro ak U;try simp only [QQ,Qax] at ak
   refine wcf U ?_
   refine zss (bH _ _ ?_)
   refine wsk fun dz bM =>?_
   replace U:=U.oz [2,3,4,5,10,19,21,36,130,134,139,145,152,158]
   refine zsr fun dA bN =>?_
   refine k9 U (.fa 1 rfl U34<|.lb m6 20 U3 rfl rfl rfl<|.fa 2 rfl U34<|.lb m6 20 U3 rfl rfl rfl<|.fa 9 rfl lx<|.lb m6 21 U28 rfl rfl rfl .nil) fun Y U =>?_
   refine plz (ecl U Tryz.func49 rfl (mY _ _ items _ _ _ _ ((m6.rd (i:=4) rfl).any) hil) ?_)
   rintro e cF ⟨ib,rfl,hib,a3⟩
   have aa:=m6.later a3
   refine⟨_,rfl,?_⟩;intro Y U
   refine gz bN U (.not rfl .nil) fun Y U =>?_
   refine bc U 167 ?_ ?_
   ·
    intro al U;try simp only [QQ,Qax] at al
    refine wct U ?_
    replace U:=U.oz [2,3,4,5,10,19,21,36,130,134,139,145,152,158,167]
    refine zsr fun dB bO =>?_
    refine k9 U (.loadBR aa (i:=20) rfl rfl U34 rfl ld (by simp) (by dsimp only [List.drop,List.take] <;> rfl) .nil) fun Y U =>?_
    refine plz (stw U aa 22 ld fun cG aN _ =>?_)
    refine gz bO U (.assign rfl .nil) fun Y U =>?_
    refine rtd (lL (fn:=Tryz.f121) U aN (i:=22) rfl rfl rfl rfl U34 rfl ld ?_)
    have bP:=aN.dat 23 rfl (aN.rd (i:=3) rfl)
    exact⟨ne,hi,fl,ws,23,_,_,rfl,by rw[doR,if_neg (by omega),if_neg (by omega),if_pos (by omega),takeR,if_neg (by simp_all),if_neg (by omega),if_neg (by omega),show wrR bl sz ws items=(ws,23) from by rw[wrR,if_neg (fun h=>by have h9:=hib.2 h;simp_all)]];rfl,bP.ren [(1,1),(2,2),(3,3),(4,4),(7,23)] (by decide)⟩
   intro al U;try simp only [QQ,Qax] at al
   refine wcf U ?_
   refine zss (bM _ _ ?_)
   replace U:=U.oz [2,3,4,5,10,19,21,36,130,134,139,145,152,158,167]
   refine zsr fun dC bQ =>?_
   refine k9 U (.loadBR aa (i:=20) rfl rfl U34 rfl ld (by simp) (by dsimp only [List.drop,List.take] <;> rfl)<|.fa 9 rfl lx<|.lb aa 21 U28 rfl rfl rfl .nil) fun Y U =>?_
   refine plz (ecl U Tryz.func124 rfl (pO _ _ _ _ _ _ _ _ _ place pins ws items _ _ _ _ _ _ _ _ _ hl hil hio (aa.into [(1,1),(2,2),(3,3),(4,4)] (by decide) rfl)) ?_)
   rintro e cH ⟨cI,cJ,rfl,ay⟩
   have a4:=aa.back ay [(1,1),(2,2),(3,3),(4,4),(23,7)] (by decide);clear ay aa
   have bR:=a4.oz [1,2,3,4,23,20,21,22]
   refine⟨_,rfl,?_⟩;intro Y U
   refine plz (stw U bR 20 ld fun cK a5 _ =>?_)
   refine znl (bQ _ _ ?_)
   refine wp_region_lit ?_
   refine k9 U (.fa 6 rfl U34<|.lb a5 20 U3 rfl rfl rfl<|.add rfl rfl (r:=ne+1) (IntWalk.i64_in _ (by omega))<|.fa 6 rfl U34 .nil) fun Y U =>?_
   refine plz (st1 U a5 20 ma fun cL a6 _ =>?_)
   refine znl (ax _ _ ?_)
   replace U:=U.oz [2,4,5,10,21,36,130,134,139,145,152,158,167]
   refine zsr fun dD bS =>?_
   refine k9 U (.loadBR a6 (i:=20) rfl rfl U34 rfl ld (by simp) (by dsimp only [List.drop,List.take] <;> rfl) .nil) fun Y U =>?_
   refine plz (stw U a6 22 ld fun cM a7 _ =>?_)
   refine gz bS U (.assign rfl .nil) fun Y U =>?_
   refine rtd (lL (fn:=Tryz.f121) U a7 (i:=22) rfl rfl rfl rfl U34 rfl ld ?_)
   exact⟨(ne+1),hi,fl,(ws++[((ws.length:Int)+1,items)]),0,_,_,rfl,by rw[doR,if_neg (by omega),if_neg (by omega),if_pos (by omega),takeR,if_neg (by simp_all),if_neg (by omega),if_neg (by omega),show wrR bl sz ws items=((ws++[((ws.length:Int)+1,items)]),0) from by rw[wrR,if_pos (hib.1 (by simp_all))]];rfl,a7.ren [(1,1),(2,2),(3,3),(4,4),(7,23)] (by decide)⟩
  intro ah U;try simp only [QQ,Qax] at ah
  refine gz a1 U (.sk<|.sk<|.sk<|.sk<|.sk<|.pickF rfl rfl<|.nil) fun Y U =>?_
  refine wcf U ?_
  refine zss (a0 _ _ ?_)
  refine wsk fun dE bT =>?_
  replace U:=U.oz [2,3,4,5,10,19,21,36,130,134,139,145]
  refine zsr fun dF a8 =>?_
  refine k9 U (.fa 8 rfl lx<|.lb m6 21 U3 rfl rfl rfl<|.fa 6 rfl U34<|.lb m6 20 U3 rfl rfl rfl<|.neq rfl rfl<|.move rfl .nil) fun Y U =>?_
  refine bc U 152 ?_ ?_
  ·
   intro ao U;try simp only [QQ,Qax] at ao
   refine gz a8 U (.sk<|.sk<|.sk<|.sk<|.sk<|.pickT rfl rfl<|.nil) fun Y U =>?_
   refine wct U ?_
   replace U:=U.oz [2,3,4,5,10,19,21,36,130,134,139,145,152,158]
   refine zsr fun dG bU =>?_
   refine k9 U (.loadBR m6 (i:=20) rfl rfl U34 rfl ld (by simp) (by dsimp only [List.drop,List.take] <;> rfl) .nil) fun Y U =>?_
   refine plz (stw U m6 22 ld fun cN aO _ =>?_)
   refine gz bU U (.assign rfl .nil) fun Y U =>?_
   refine rtd (lL (fn:=Tryz.f121) U aO (i:=22) rfl rfl rfl rfl U34 rfl ld ?_)
   have bV:=aO.dat 23 rfl (aO.rd (i:=3) rfl)
   exact⟨ne,hi,fl,ws,33,_,_,rfl,by rw[doR,if_neg (by omega),if_neg (by omega),if_pos (by omega),takeR,if_neg (by simp_all),if_neg (by omega),if_pos (by omega)],bV.ren [(1,1),(2,2),(3,3),(4,4),(7,23)] (by decide)⟩
  intro ao U;try simp only [QQ,Qax] at ao
  refine gz a8 U (.faZ 6 rfl U34<|.loadB1Z m6 (i:=20) rfl rfl rfl U3 rfl<|.faZ 5 rfl U34<|.loadB1Z m6 (i:=20) rfl rfl rfl U3 rfl<|.eqlZ rfl rfl<|.pickF rfl rfl<|.nil) fun Y U =>?_
  refine bc U 158 ?_ ?_
  ·
   intro ap U;try simp only [QQ,Qax] at ap
   refine wct U ?_
   replace U:=U.oz [2,3,4,5,10,19,21,36,130,134,139,145,152,158]
   refine zsr fun dH bW =>?_
   refine k9 U (.loadBR m6 (i:=20) rfl rfl U34 rfl ld (by simp) (by dsimp only [List.drop,List.take] <;> rfl) .nil) fun Y U =>?_
   refine plz (stw U m6 22 ld fun cO aP _ =>?_)
   refine gz bW U (.assign rfl .nil) fun Y U =>?_
   refine rtd (lL (fn:=Tryz.f121) U aP (i:=22) rfl rfl rfl rfl U34 rfl ld ?_)
   have bX:=aP.dat 23 rfl (aP.rd (i:=3) rfl)
   exact⟨ne,hi,fl,ws,33,_,_,rfl,by rw[doR,if_neg (by omega),if_neg (by omega),if_pos (by omega),takeR,if_neg (by simp_all),if_neg (by omega),if_pos (by omega)],bX.ren [(1,1),(2,2),(3,3),(4,4),(7,23)] (by decide)⟩
  intro ap U;try simp only [QQ,Qax] at ap
  refine wcf U ?_
  refine zss (bT _ _ ?_)
  refine wsk fun dI bY =>?_
  replace U:=U.oz [2,3,4,5,10,19,21,36,130,134,139,145,152,158]
  refine zsr fun dJ bZ =>?_
  refine k9 U (.fa 1 rfl U34<|.lb m6 20 U3 rfl rfl rfl<|.fa 2 rfl U34<|.lb m6 20 U3 rfl rfl rfl<|.fa 9 rfl lx<|.lb m6 21 U28 rfl rfl rfl .nil) fun Y U =>?_
  refine plz (ecl U Tryz.func49 rfl (mY _ _ items _ _ _ _ ((m6.rd (i:=4) rfl).any) hil) ?_)
  rintro e cP ⟨ib,rfl,hib,a9⟩
  have ab:=m6.later a9
  refine⟨_,rfl,?_⟩;intro Y U
  refine gz bZ U (.not rfl .nil) fun Y U =>?_
  refine bc U 167 ?_ ?_
  ·
   intro aq U;try simp only [QQ,Qax] at aq
   refine wct U ?_
   replace U:=U.oz [2,3,4,5,10,19,21,36,130,134,139,145,152,158,167]
   refine zsr fun dK b0 =>?_
   refine k9 U (.loadBR ab (i:=20) rfl rfl U34 rfl ld (by simp) (by dsimp only [List.drop,List.take] <;> rfl) .nil) fun Y U =>?_
   refine plz (stw U ab 22 ld fun cQ aQ _ =>?_)
   refine gz b0 U (.assign rfl .nil) fun Y U =>?_
   refine rtd (lL (fn:=Tryz.f121) U aQ (i:=22) rfl rfl rfl rfl U34 rfl ld ?_)
   have b1:=aQ.dat 23 rfl (aQ.rd (i:=3) rfl)
   exact⟨ne,hi,fl,ws,23,_,_,rfl,by rw[doR,if_neg (by omega),if_neg (by omega),if_pos (by omega),takeR,if_neg (by simp_all),if_neg (by omega),if_neg (by omega),show wrR bl sz ws items=(ws,23) from by rw[wrR,if_neg (fun h=>by have h9:=hib.2 h;simp_all)]];rfl,b1.ren [(1,1),(2,2),(3,3),(4,4),(7,23)] (by decide)⟩
  intro aq U;try simp only [QQ,Qax] at aq
  refine wcf U ?_
  refine zss (bY _ _ ?_)
  replace U:=U.oz [2,3,4,5,10,19,21,36,130,134,139,145,152,158,167]
  refine zsr fun dL b4 =>?_
  refine k9 U (.loadBR ab (i:=20) rfl rfl U34 rfl ld (by simp) (by dsimp only [List.drop,List.take] <;> rfl)<|.fa 9 rfl lx<|.lb ab 21 U28 rfl rfl rfl .nil) fun Y U =>?_
  refine plz (ecl U Tryz.func124 rfl (pO _ _ _ _ _ _ _ _ _ place pins ws items _ _ _ _ _ _ _ _ _ hl hil hio (ab.into [(1,1),(2,2),(3,3),(4,4)] (by decide) rfl)) ?_)
  rintro e cR ⟨cS,cT,rfl,az⟩
  have ba:=ab.back az [(1,1),(2,2),(3,3),(4,4),(23,7)] (by decide);clear az ab
  have b5:=ba.oz [1,2,3,4,23,20,21,22]
  refine⟨_,rfl,?_⟩;intro Y U
  refine plz (stw U b5 20 ld fun cU bb _ =>?_)
  refine znl (b4 _ _ ?_)
  refine wp_region_lit ?_
  refine k9 U (.fa 6 rfl U34<|.lb bb 20 U3 rfl rfl rfl<|.add rfl rfl (r:=ne+1) (IntWalk.i64_in _ (by omega))<|.fa 6 rfl U34 .nil) fun Y U =>?_
  refine plz (st1 U bb 20 ma fun cV bd _ =>?_)
  refine znl (ax _ _ ?_)
  replace U:=U.oz [2,4,5,10,21,36,130,134,139,145,152,158,167]
  refine zsr fun dM b6 =>?_
  refine k9 U (.loadBR bd (i:=20) rfl rfl U34 rfl ld (by simp) (by dsimp only [List.drop,List.take] <;> rfl) .nil) fun Y U =>?_
  refine plz (stw U bd 22 ld fun cW be _ =>?_)
  refine gz b6 U (.assign rfl .nil) fun Y U =>?_
  refine rtd (lL (fn:=Tryz.f121) U be (i:=22) rfl rfl rfl rfl U34 rfl ld ?_)
  exact⟨(ne+1),hi,fl,(ws++[((ws.length:Int)+1,items)]),0,_,_,rfl,by rw[doR,if_neg (by omega),if_neg (by omega),if_pos (by omega),takeR,if_neg (by simp_all),if_neg (by omega),if_neg (by omega),show wrR bl sz ws items=((ws++[((ws.length:Int)+1,items)]),0) from by rw[wrR,if_pos (hib.1 (by simp_all))]];rfl,be.ren [(1,1),(2,2),(3,3),(4,4),(7,23)] (by decide)⟩
 intro ae U;try simp only [QQ,Qax] at ae
 refine wcf U ?_
 refine la U (.eql rfl rfl<|.assign rfl .nil) fun Y U =>?_
 refine bc U 177 ?_ ?_
 ·
  intro ar U;try simp only [QQ,Qax] at ar
  refine wct U ?_
  refine wsk fun dN b7 =>?_
  refine zsr fun dO bf =>?_
  refine k9 U (.fa 7 rfl U34<|.lb m6 20 U4 rfl rfl rfl<|.not rfl<|.move rfl .nil) fun Y U =>?_
  refine bc U 182 ?_ ?_
  ·
   intro au U;try simp only [QQ,Qax] at au
   refine gz bf U (.sk<|.sk<|.sk<|.sk<|.sk<|.pickT rfl rfl<|.nil) fun Y U =>?_
   refine wct U ?_
   replace U:=U.oz [2,4,5,10,19,21,36,130,177,182,188]
   refine zsr fun dP b8 =>?_
   refine k9 U (.loadBR m6 (i:=20) rfl rfl U34 rfl ld (by simp) (by dsimp only [List.drop,List.take] <;> rfl) .nil) fun Y U =>?_
   refine plz (stw U m6 22 ld fun cX aR _ =>?_)
   refine gz b8 U (.assign rfl .nil) fun Y U =>?_
   refine rtd (lL (fn:=Tryz.f121) U aR (i:=22) rfl rfl rfl rfl U34 rfl ld ?_)
   have b9:=aR.dat 23 rfl (aR.rd (i:=3) rfl)
   exact⟨ne,hi,fl,ws,33,_,_,rfl,by rw[doR,if_neg (by omega),if_neg (by omega),if_neg (by omega),if_pos (by omega),nv,if_pos (by first|(left;simp_all;done)|(right;assumption)|omega)],b9.ren [(1,1),(2,2),(3,3),(4,4),(7,23)] (by decide)⟩
  intro au U;try simp only [QQ,Qax] at au
  refine gz bf U (.faZ 6 rfl U34<|.loadB1Z m6 (i:=20) rfl rfl rfl U3 rfl<|.faZ 5 rfl U34<|.loadB1Z m6 (i:=20) rfl rfl rfl U3 rfl<|.neqZ rfl rfl<|.pickF rfl rfl<|.nil) fun Y U =>?_
  refine bc U 188 ?_ ?_
  ·
   intro av U;try simp only [QQ,Qax] at av
   refine wct U ?_
   replace U:=U.oz [2,4,5,10,19,21,36,130,177,182,188]
   refine zsr fun dQ ca =>?_
   refine k9 U (.loadBR m6 (i:=20) rfl rfl U34 rfl ld (by simp) (by dsimp only [List.drop,List.take] <;> rfl) .nil) fun Y U =>?_
   refine plz (stw U m6 22 ld fun cY aS _ =>?_)
   refine gz ca U (.assign rfl .nil) fun Y U =>?_
   refine rtd (lL (fn:=Tryz.f121) U aS (i:=22) rfl rfl rfl rfl U34 rfl ld ?_)
   have cb:=aS.dat 23 rfl (aS.rd (i:=3) rfl)
   exact⟨ne,hi,fl,ws,33,_,_,rfl,by rw[doR,if_neg (by omega),if_neg (by omega),if_neg (by omega),if_pos (by omega),nv,if_pos (by first|(left;simp_all;done)|(right;assumption)|omega)],cb.ren [(1,1),(2,2),(3,3),(4,4),(7,23)] (by decide)⟩
  intro av U;try simp only [QQ,Qax] at av
  refine wcf U ?_
  refine zss (b7 _ _ ?_)
  replace U:=U.oz [2,4,5,10,19,21,36,130,177,182,188]
  refine wp_region_lit ?_
  refine k9 U (.loadBR m6 (i:=20) rfl rfl U34 rfl ld (by simp) (by dsimp only [List.drop,List.take] <;> rfl) .nil) fun Y U =>?_
  refine wpList_plain rfl (fun K hK =>?_)
  refine lG U Tryz.func37 rfl rfl rfl rfl (me _ _ _ _ _ _ _ _ _ _ _ _ _ _ _ _ _ _) ?_
  rintro e cZ ⟨rfl,bg⟩
  rw[List.length_map]
  have cc:=m6.later bg
  refine⟨_,rfl,?_⟩;intro Y U
  refine hK _ _ ?_;clear hK
  refine k9 U (.fieldAddr (off:=7) rfl U34 rfl (s:=0) (by kernel_rfl) rfl .nil) fun Y U =>?_
  refine plz (st1 U cc 20 Al fun c0 cd _ =>?_)
  refine k9 U (.fieldAddr (off:=8) rfl U34 rfl (s:=0) (by kernel_rfl) rfl .nil) fun Y U =>?_
  refine plz (st1 U cd 20 l3 fun c2 bh _ =>?_)
  refine znl (ax _ _ ?_)
  refine zsr fun dR ce =>?_
  refine k9 U (.loadBR bh (i:=20) rfl rfl U34 rfl ld (by simp) (by dsimp only [List.drop,List.take] <;> rfl) .nil) fun Y U =>?_
  refine plz (stw U bh 22 ld fun c3 aT _ =>?_)
  refine gz ce U (.assign rfl .nil) fun Y U =>?_
  refine rtd (lL (fn:=Tryz.f121) U aT (i:=22) rfl rfl rfl rfl U34 rfl ld ?_)
  have cf:=aT.dat 23 rfl (aT.rd (i:=3) rfl)
  exact⟨ne,false,ws.length,ws,0,_,_,rfl,by rw[doR,if_neg (by omega),if_neg (by omega),if_neg (by omega),if_pos (by omega),nv,if_neg (by rintro(h|h) <;> simp_all)],cf.ren [(1,1),(2,2),(3,3),(4,4),(7,23)] (by decide)⟩
 intro ar U;try simp only [QQ,Qax] at ar
 refine wcf U ?_
 refine la U (.eql rfl rfl<|.assign rfl .nil) fun Y U =>?_
 refine bc U 194 ?_ ?_
 ·
  intro aw U;try simp only [QQ,Qax] at aw
  refine wct U ?_
  refine zss (ax _ _ ?_)
  replace U:=U.oz [2,4,5,10,21,36,130,177,194]
  refine zsr fun dS cg =>?_
  refine k9 U (.loadBR m6 (i:=20) rfl rfl U34 rfl ld (by simp) (by dsimp only [List.drop,List.take] <;> rfl) .nil) fun Y U =>?_
  refine plz (stw U m6 22 ld fun c4 aU _ =>?_)
  refine gz cg U (.assign rfl .nil) fun Y U =>?_
  refine rtd (lL (fn:=Tryz.f121) U aU (i:=22) rfl rfl rfl rfl U34 rfl ld ?_)
  have cj:=aU.dat 23 rfl (aU.rd (i:=3) rfl)
  exact⟨ne,hi,fl,ws,0,_,_,rfl,by rw[doR,if_neg (by omega),if_neg (by omega),if_neg (by omega),if_neg (by omega),if_pos (by omega)],cj.ren [(1,1),(2,2),(3,3),(4,4),(7,23)] (by decide)⟩
 intro aw U;try simp only [QQ,Qax] at aw
 refine wcf U ?_
 replace U:=U.oz [2,4,5,10,21,36,130,177,194]
 refine zsr fun dT ck =>?_
 refine k9 U (.loadBR m6 (i:=20) rfl rfl U34 rfl ld (by simp) (by dsimp only [List.drop,List.take] <;> rfl) .nil) fun Y U =>?_
 refine plz (stw U m6 22 ld fun c5 aV _ =>?_)
 refine gz ck U (.assign rfl .nil) fun Y U =>?_
 refine rtd (lL (fn:=Tryz.f121) U aV (i:=22) rfl rfl rfl rfl U34 rfl ld ?_)
 have cl:=aV.dat 23 rfl (aV.rd (i:=3) rfl)
 exact⟨ne,hi,fl,ws,23,_,_,rfl,by rw[doR,if_neg (by omega),if_neg (by omega),if_neg (by omega),if_neg (by omega),if_neg (by omega)],cl.ren [(1,1),(2,2),(3,3),(4,4),(7,23)] (by decide)⟩
theorem zT(X:Cx)(vo bl sz pe to ne fl:Int)(hi:Bool)(place pins:List Int)(ws:List (Int×List (Int×List Int)))(pp pn pw:Option Addr)(cp cn9 cw:Nat)(v1 v2 v3 v4 v5 at0 v6:Int)(q1:Option Addr)(n1 c1:Nat)(q2:Option Addr)(n2 c2:Nat)(w0:World)(hp:pins.length≤900000)(hsp:pins.Pairwise (·≤·))(m0:MemOk X w0 [(1,.dat (.slice pp place.length cp) (.ns .i64 place)),(2,.dat (.slice pn pins.length cn9) (.ns .i64 pins)),(3,.dat (.slice pw (ws.map wrD).length cw) (.l 2 (ws.map wrD)))] w0) :
   Calls Tryz.prog 121 #[.agg #[.int .i64 vo,.int .i64 bl,.int .i64 sz,.int .i64 pe,.slice pp place.length cp,.int .i64 to,.int .i64 ne,.bool hi,.int .i64 fl,.slice pn pins.length cn9,.slice pw (ws.map wrD).length cw],.agg #[.int .i64 4,.int .i64 v1,.int .i64 v2,.int .i64 v3,.int .i64 v4,.slice q1 n1 c1,.int .i64 v5,.int .i64 at0,.int .i64 v6,.slice q2 n2 c2]] w0 fun e w' => ∃ (pins':List Int) (e9:Int) (p2':Option Addr) (d2':Nat),e=.returned (.tuple #[.agg #[.int .i64 vo,.int .i64 bl,.int .i64 sz,.int .i64 pe,.slice pp place.length cp,.int .i64 to,.int .i64 ne,.bool hi,.int .i64 fl,.slice p2' pins'.length d2',.slice pw (ws.map wrD).length cw],.int .i64 e9])∧tP hi fl at0 ws.length pins=(pins',e9)∧MemOk X w0 [(1,.dat (.slice pp place.length cp) (.ns .i64 place)),(2,.dat (.slice pn pins.length cn9) (.ns .i64 pins)),(3,.dat (.slice pw (ws.map wrD).length cw) (.l 2 (ws.map wrD))),(6,.dat (.slice p2' pins'.length d2') (.ns .i64 pins'))] w':=by
 refine mR Tryz.func121 rfl Tryz.ntmps121 fun Y U =>?_
 refine zsr fun K0 hK0 =>?_
 refine plz (ly U m0 20 (cs:=[_,_,_,_,_,_,_,_,_,_,_]) rfl rfl rfl fun g1 Y w2 U m2 _ _ =>?_)
 refine plz (ly U m2 21 (cs:=[_,_,_,_,_,_,_,_,_,_]) rfl rfl rfl fun g3 Y w4 U m4 _ _ =>?_)
 refine plz (lc U m4 22 mo rfl fun g5 Y w6 U m6 _ _ =>?_)
 refine gz hK0 U (.assign rfl .nil) fun Y U =>?_
 refine wsk fun K1 hK1 =>?_
 refine la U (.fa 0 rfl lx<|.lb m6 21 U3 rfl rfl rfl .nil) fun Y U =>?_
 refine wp_block ?_
 refine wsk fun K2 hK2 =>?_
 refine la U (.eql rfl rfl<|.assign rfl .nil) fun Y U =>?_
 refine bc U 10 ?_ ?_
 · intro hb _;exact absurd hb (by simp)
 clear U;intro _ U
 refine wcf U ?_
 refine la U (.eql rfl rfl<|.assign rfl .nil) fun Y U =>?_
 refine bc U 10 ?_ ?_
 · intro hb _;exact absurd hb (by simp)
 clear U;intro _ U
 refine wcf U ?_
 refine la U (.eql rfl rfl<|.assign rfl .nil) fun Y U =>?_
 refine bc U 10 ?_ ?_
 rotate_left
 · intro hb _;exact absurd hb (by simp)
 clear U;intro _ U
 refine wct U ?_
 refine zss (hK2 _ _ ?_)
 refine wct U ?_
 replace U:=U.oz [2,3,4,5]
 refine la U (.fa 7 rfl U34<|.lb m6 20 U4 rfl rfl rfl .nil) fun Y U =>?_
 refine bc U 16 ?_ ?_
 ·
  intro ai U;try simp only [QQ,Qax] at ai
  refine wct U ?_
  refine zsr fun K3 hK3 =>?_
  refine k9 U (.loadBR m6 (i:=20) rfl rfl U34 rfl ld (by simp) (by dsimp only [List.drop,List.take] <;> rfl) .nil) fun Y U =>?_
  refine plz (stw U m6 22 ld fun cq a4 _ =>?_)
  refine gz hK3 U (.assign rfl .nil) fun Y U =>?_
  refine rtd (lL (fn:=Tryz.f121) U a4 (i:=22) rfl rfl rfl rfl U34 rfl ld ?_)
  have bn:=a4.dat 23 rfl (a4.rd (i:=2) rfl)
  exact⟨pins,28,_,_,rfl,by rw[tP,show lV hi fl at0 ws.length=28 from by rw[lV,if_pos (by assumption)]];rfl,bn.ren [(1,1),(2,2),(3,3),(6,23)] (by decide)⟩
 intro ai U;try simp only [QQ,Qax] at ai
 refine wcf U ?_
 refine zss (hK1 _ _ ?_)
 refine wsk fun K4 hK4 =>?_
 refine la U (.fa 0 rfl lx<|.lb m6 21 U3 rfl rfl rfl .nil) fun Y U =>?_
 refine wp_block ?_
 refine la U (.eql rfl rfl<|.assign rfl .nil) fun Y U =>?_
 refine bc U 21 ?_ ?_
 · intro hb _;exact absurd hb (by simp)
 clear U;intro _ U
 refine wcf U ?_
 refine la U (.eql rfl rfl<|.assign rfl .nil) fun Y U =>?_
 refine bc U 36 ?_ ?_
 · intro hb _;exact absurd hb (by simp)
 clear U;intro _ U
 refine wcf U ?_
 replace U:=U.oz [2,3,4,5,16,19]
 refine la U (.eql rfl rfl<|.assign rfl .nil) fun Y U =>?_
 refine bc U 53 ?_ ?_
 rotate_left
 · intro hb _;exact absurd hb (by simp)
 clear U;intro _ U
 refine wct U ?_
 refine wsk fun K5 hK5 =>?_
 refine la U (.fa 7 rfl lx<|.lb m6 21 U2 rfl rfl rfl<|.fa 8 rfl U34<|.lb m6 20 U2 rfl rfl rfl<|.lss rfl rfl .nil) fun Y U =>?_
 refine bc U 59 ?_ ?_
 ·
  intro aj U;try simp only [QQ,Qax] at aj
  refine wct U ?_
  replace U:=U.oz [2,3,4,5,16,19,59]
  refine zsr fun K6 hK6 =>?_
  refine k9 U (.loadBR m6 (i:=20) rfl rfl U34 rfl ld (by simp) (by dsimp only [List.drop,List.take] <;> rfl) .nil) fun Y U =>?_
  refine plz (stw U m6 22 ld fun cr a5 _ =>?_)
  refine gz hK6 U (.assign rfl .nil) fun Y U =>?_
  refine rtd (lL (fn:=Tryz.f121) U a5 (i:=22) rfl rfl rfl rfl U34 rfl ld ?_)
  have bo:=a5.dat 23 rfl (a5.rd (i:=2) rfl)
  exact⟨pins,30,_,_,rfl,by rw[tP,show lV hi fl at0 ws.length=30 from by rw[lV,if_neg (by simp_all),if_pos (by omega)]];rfl,bo.ren [(1,1),(2,2),(3,3),(6,23)] (by decide)⟩
 intro aj U;try simp only [QQ,Qax] at aj
 refine wcf U ?_
 refine zss (hK5 _ _ ?_)
 refine wsk fun K7 hK7 =>?_
 refine wsk fun K8 hK8 =>?_
 replace U:=U.oz [2,3,4,5,16,19,59]
 have a6:=m6.oz [1,2,3,20,21,22]
 refine region_p 5 (B:=[(1,_),(2,_),(3,_),(20,_),(21,_),(22,_)]) (a6.to i6l) a6 (by kernel_rfl) (fun ct aJ bk =>?_);clear a6
 refine goR aJ [0,1,2] [1,2] 3 0 7 U (bk.to i6l) (.fa 7 rfl lx<|.lb hh 21 U2 rfl rfl rfl<|.loadBR hh (i:=20) rfl rfl U34 rfl ld (by simp) (by dsimp only [List.drop,List.take] <;> rfl) .nil) fun Y U =>?_
 refine lh 3 rfl (by kernel_rfl) rfl (fun K hK =>?_)
 refine lG U Tryz.func37 rfl rfl rfl rfl (me _ _ _ _ _ _ _ _ _ _ _ _ _ _ _ _ _ _) ?_
 rintro e cu ⟨rfl,a7⟩
 rw[List.length_map]
 have aI:=bk.later a7
 refine⟨_,rfl,?_⟩;intro Y U
 refine hK _ _ (aI.to i6l) ?_;clear hK K
 refine goA aJ [4] 1 15 31 U (aI.to i6l) (.gtr rfl rfl .nil) fun Y U =>?_
 refine wad ?_
 refine hK8 _ _ ?_
 refine bc U 65 ?_ ?_
 ·
  intro ak U;try simp only [QQ,Qax] at ak
  refine wct U ?_
  refine zsr fun K9 hK9 =>?_
  refine k9 U (.loadBR aI (i:=20) rfl rfl U34 rfl ld (by simp) (by dsimp only [List.drop,List.take] <;> rfl) .nil) fun Y U =>?_
  refine plz (stw U aI 22 ld fun cv a8 _ =>?_)
  refine gz hK9 U (.assign rfl .nil) fun Y U =>?_
  refine rtd (lL (fn:=Tryz.f121) U a8 (i:=22) rfl rfl rfl rfl U34 rfl ld ?_)
  have bp:=a8.dat 23 rfl (a8.rd (i:=2) rfl)
  exact⟨pins,31,_,_,rfl,by rw[tP,show lV hi fl at0 ws.length=31 from by rw[lV,if_neg (by simp_all),if_neg (by omega),if_pos (by omega)]];rfl,bp.ren [(1,1),(2,2),(3,3),(6,23)] (by decide)⟩
 intro ak U;try simp only [QQ,Qax] at ak
 refine wcf U ?_
 refine zss (hK7 _ _ ?_)
 refine la U (.assign rfl .nil) fun Y U =>?_
 refine wsk fun cy aK =>?_
 refine wp_block ?_
 refine wp_loop_ghost (fun g a w => ∃ (k B8 B9 a9:Nat),k≤pins.length∧g=pins.length - k∧(∀ j,j<k→pins.getD j 0≤at0)∧Has 197 [(2,.pointer (some ⟨B8,0,none⟩)),(3,.pointer (some ⟨B9,0,none⟩)),(4,.pointer (some ⟨a9,0,none⟩)),(6,.int .i64 k)] a∧MemOk X w0 [(1,.dat (.slice pp place.length cp) (.ns .i64 place)),(2,.dat (.slice pn pins.length cn9) (.ns .i64 pins)),(3,.dat (.slice pw (ws.map wrD).length cw) (.l 2 (ws.map wrD))),(8,.box B8 34 [.int .i64 vo,.int .i64 bl,.int .i64 sz,.int .i64 pe,.slice pp place.length cp,.int .i64 to,.int .i64 ne,.bool hi,.int .i64 fl,.slice pn pins.length cn9,.slice pw (ws.map wrD).length cw]),(9,.box B9 125 [.int .i64 4,.int .i64 v1,.int .i64 v2,.int .i64 v3,.int .i64 v4,.slice q1 n1 c1,.int .i64 v5,.int .i64 at0,.int .i64 v6,.slice q2 n2 c2]),(10,.box a9 34 [.int .i64 0,.int .i64 0,.int .i64 0,.int .i64 0,.slice none 0 0,.int .i64 0,.int .i64 0,.bool false,.int .i64 0,.slice none 0 0,.slice none 0 0])] w) (pins.length) ?_ ?_
 · exact⟨0,_,_,_,Nat.zero_le _,rfl,(fun j hj=>by omega),U.only [2,3,4,6],aI.ren [(1,1),(2,2),(3,3),(8,20),(9,21),(10,22)] (by decide)⟩
 clear U aI
 rintro g Y cz ⟨k,B8,B9,a9,hkl,hg,hall,U,bm⟩
 refine wsk fun cA ba =>?_
 refine wsk fun cB aL =>?_
 by_cases hk:k<pins.length
 ·
  obtain⟨cC,cD,bb,bq⟩:=bm.openN (i:=2) rfl (k) hk 100 rfl
  revert U
  cases bb
  intro U
  have bd:=bq.oz [1,2,3,8,9,10,100]
  refine region_p 15 (B:=[(1,_),(2,_),(3,_),(8,_),(9,_),(10,_),(100,_)]) (bd.to i7l) bd (by kernel_rfl) (fun cE aM a3 =>?_);clear bd
  refine goR aM [0,1,2,3,4,5] [2] 6 0 63 U (a3.to i7l) (.move rfl<|.fa 9 rfl U34<|.lb hh 8 U32 rfl rfl rfl<|.len rfl U32<|.lss rfl rfl<|.move rfl .nil) fun Y U =>?_
  refine bc U 72 ?_ ?_
  rotate_left
  · intro hb _;exact absurd hb (by simp;omega)
  clear U;intro _ U
  refine goR aM [6,7,8,9,10,11,12,13,14] [7,10,12] 9 63 32767 U (a3.to i7l) (.fa 9 rfl U34<|.lb hh 8 U32 rfl rfl rfl<|.move rfl<|.p (fun _ _ h_=>li h_ rfl rfl U32 l3 (k) rfl hk)<|.loadC0 hh (i:=100) rfl rfl U2 rfl<|.fa 7 rfl lx<|.lb hh 9 U2 rfl rfl rfl<|.leq rfl rfl<|.pickT rfl rfl .nil) fun Y U =>?_
  refine wad ?_
  refine aL _ _ ?_
  refine bc U 81 ?_ ?_
  ·
   intro al U;try simp only [QQ,Qax] at al
   refine wct U ?_
   refine zss (ba _ _ ?_)
   refine wp_block ?_
   replace U:=U.oz [2,3,4,6,72,81]
   refine wp_region_lit ?_
   refine k9 U (.move rfl<|.inc (k+1)<|.assign rfl .nil) fun Y U =>?_
   refine wpList_nil ?_
   show ∃ n',n'<_∧_
   exact⟨pins.length - (k+1),by omega,k+1,_,_,_,by omega,rfl,yV hall (by omega),U.only [2,3,4,6],a3.only [1,2,3,8,9,10]⟩
  intro al U;try simp only [QQ,Qax] at al
  refine wcf U ?_
  refine wp_exit ?_
  refine aK _ _ ?_
  replace U:=U.oz [2,3,4,6,72,81]
  have be:=a3.oz [1,2,3,8,9,10,100]
  refine region_p 15 (B:=[(1,_),(2,_),(3,_),(8,_),(9,_),(10,_),(100,_)]) (be.to i7l) be (by kernel_rfl) (fun cF ab bf =>?_);clear be
  refine goR ab [0,1,2] [1] 3 0 7 U (bf.to i7l) (.fa 9 rfl U34<|.lb hh 8 U32 rfl rfl rfl<|.move rfl .nil) fun Y U =>?_
  have ac:=(bf.rd (i:=2) rfl).ns_out.cap
  have aN:=bf.takeN (i:=2) rfl (k) hkl 101 rfl
  refine goR ab [3,5,6,9,10,11] [6,10] 6 7 3695 U (aN.to i7l) (.p (fun _ _ h_=>mD h_ (k) rfl rfl U32 l3 rfl (Nat.le_trans hkl ac.1))<|.fa 7 rfl lx<|.lb hh 9 U2 rfl rfl rfl<|.fa 9 rfl U34<|.lb hh 8 U32 rfl rfl rfl<|.move rfl .nil) fun Y U =>?_
  have ad:=aN.dropN (i:=2) rfl (k) hkl 102 rfl
  refine goA ab [12] 1 3695 7791 U (ad.to i7l) (.p (fun _ _ h_=>lK h_ (k) rfl rfl U32 l3 rfl hkl) .nil) fun Y U =>?_
  refine dtw 4 7 ?_ ?_
  ·
   refine oa U ad 103 rfl rfl (ad.nums (i:=101) rfl) U32 lS (by decide) (by simp;omega) rfl fun br bs Y bt U aO =>?_
   refine⟨fun _=>(aO.to i7l),?_⟩
   refine so 7 ?_
   refine lj U aO 104 (k:=.i64) rfl rfl U32 lS rfl rfl rfl rfl fun bu Y bv U ao =>?_
   refine⟨ao.to i7l,?_⟩
   refine so 8 ?_
   refine lE U ao 103 rfl rfl rfl (ao.numsO (i:=104) rfl) U32 lS (by decide) (by simp;omega) rfl fun bw bx Y bz U ap =>?_
   refine⟨ap.to i7l,?_⟩
   refine so 13 ?_
   refine lE U ap 103 rfl rfl rfl (ap.nums (i:=102) rfl) U32 lS (by decide) (by simp;omega) rfl fun bA bB Y bC U aq =>?_
   refine⟨aq.to i7l,?_⟩
   refine goA ab [14] 1 16383 32767 U (aq.to i7l) (.fa 9 rfl U34 .nil) fun Y U =>?_
   refine se 15 ?_
   refine st1 U aq 8 ug fun bE aP _ =>?_
   refine wad ?_
   refine hK4 _ _ ?_
   replace U:=U.oz [2,3,4,6,72,81]
   refine zsr fun cG bg =>?_
   refine k9 U (.loadBR aP (i:=8) rfl rfl U34 rfl ld (by simp) (by dsimp only [List.drop,List.take] <;> rfl) .nil) fun Y U =>?_
   refine plz (stw U aP 10 ld fun bF aQ _ =>?_)
   refine gz bg U (.assign rfl .nil) fun Y U =>?_
   refine rtd (lL (fn:=Tryz.f121) U aQ (i:=10) rfl rfl rfl rfl U34 rfl ld ?_)
   have aR:=aQ.freezeN 103 rfl
   have hS:=nT (k:=k) hsp hall (by omega) (by omega)
   rw[hS] at aR ⊢
   exact⟨qK (pins++[at0]),0,_,_,rfl,by rw[tP,show lV hi fl at0 ws.length=0 from by rw[lV,if_neg (by simp_all),if_neg (by omega),if_neg (by omega)]];rfl,aR.ren [(1,1),(2,2),(3,3),(6,103)] (by decide)⟩
  refine lj U ad 103 (k:=.i64) rfl rfl U32 lS rfl rfl rfl rfl fun bG Y bH U ar =>?_
  refine⟨fun _=>(ar.to i7l),?_⟩
  refine so 4 ?_
  refine oa U ar 104 rfl rfl (ar.nums (i:=101) rfl) U32 lS (by decide) (by simp;omega) rfl fun bI bJ Y bK U au =>?_
  refine⟨au.to i7l,?_⟩
  refine so 8 ?_
  refine lE U au 104 rfl rfl rfl (au.numsO (i:=103) rfl) U32 lS (by decide) (by simp;omega) rfl fun bL bM Y bN U av =>?_
  refine⟨av.to i7l,?_⟩
  refine so 13 ?_
  refine lE U av 104 rfl rfl rfl (av.nums (i:=102) rfl) U32 lS (by decide) (by simp;omega) rfl fun bO bP Y bQ U aw =>?_
  refine⟨aw.to i7l,?_⟩
  refine goA ab [14] 1 16383 32767 U (aw.to i7l) (.fa 9 rfl U34 .nil) fun Y U =>?_
  refine se 15 ?_
  refine st1 U aw 8 ug fun bR aS _ =>?_
  refine wad ?_
  refine hK4 _ _ ?_
  replace U:=U.oz [2,3,4,6,72,81]
  refine zsr fun cH bh =>?_
  refine k9 U (.loadBR aS (i:=8) rfl rfl U34 rfl ld (by simp) (by dsimp only [List.drop,List.take] <;> rfl) .nil) fun Y U =>?_
  refine plz (stw U aS 10 ld fun bS aT _ =>?_)
  refine gz bh U (.assign rfl .nil) fun Y U =>?_
  refine rtd (lL (fn:=Tryz.f121) U aT (i:=10) rfl rfl rfl rfl U34 rfl ld ?_)
  have aU:=aT.freezeN 104 rfl
  have hS:=nT (k:=k) hsp hall (by omega) (by omega)
  rw[hS] at aU ⊢
  exact⟨qK (pins++[at0]),0,_,_,rfl,by rw[tP,show lV hi fl at0 ws.length=0 from by rw[lV,if_neg (by simp_all),if_neg (by omega),if_neg (by omega)]];rfl,aU.ren [(1,1),(2,2),(3,3),(6,104)] (by decide)⟩
 have hk9:k=pins.length:=by omega
 have ax:=bm.oz [1,2,3,8,9,10]
 refine region_p 15 (B:=[(1,_),(2,_),(3,_),(8,_),(9,_),(10,_)]) (ax.to i6l) ax (by kernel_rfl) (fun bT ah ay =>?_);clear ax
 refine goR ah [0,1,2,3,4,5] [2] 6 0 63 U (ay.to i6l) (.move rfl<|.fa 9 rfl U34<|.lb hh 8 U32 rfl rfl rfl<|.len rfl U32<|.lss rfl rfl<|.move rfl .nil) fun Y U =>?_
 refine bc U 72 ?_ ?_
 · intro hb _;exact absurd hb (by simp;omega)
 clear U;intro _ U
 refine goA ah [6,7,8,9,10,11,12,13,14] 9 63 32767 U (ay.to i6l) (.s<|.s<|.s<|.s<|.s<|.s<|.s<|.s<|.pickF rfl rfl .nil) fun Y U =>?_
 refine wad ?_
 refine aL _ _ ?_
 refine wcf U ?_
 refine wp_exit ?_
 refine aK _ _ ?_
 replace U:=U.oz [2,3,4,6,72,81]
 have az:=ay.oz [1,2,3,8,9,10]
 refine region_p 15 (B:=[(1,_),(2,_),(3,_),(8,_),(9,_),(10,_)]) (az.to i6l) az (by kernel_rfl) (fun bU aa aA =>?_);clear az
 refine goR aa [0,1,2] [1] 3 0 7 U (aA.to i6l) (.fa 9 rfl U34<|.lb hh 8 U32 rfl rfl rfl<|.move rfl .nil) fun Y U =>?_
 have ae:=(aA.rd (i:=2) rfl).ns_out.cap
 have aV:=aA.takeN (i:=2) rfl (k) hkl 100 rfl
 refine goR aa [3,5,6,9,10,11] [6,10] 6 7 3695 U (aV.to i6l) (.p (fun _ _ h_=>mD h_ (k) rfl rfl U32 l3 rfl (Nat.le_trans hkl ae.1))<|.fa 7 rfl lx<|.lb hh 9 U2 rfl rfl rfl<|.fa 9 rfl U34<|.lb hh 8 U32 rfl rfl rfl<|.move rfl .nil) fun Y U =>?_
 have ag:=aV.dropN (i:=2) rfl (k) hkl 101 rfl
 refine goA aa [12] 1 3695 7791 U (ag.to i6l) (.p (fun _ _ h_=>lK h_ (k) rfl rfl U32 l3 rfl hkl) .nil) fun Y U =>?_
 refine dtw 4 7 ?_ ?_
 ·
  refine oa U ag 102 rfl rfl (ag.nums (i:=100) rfl) U32 lS (by decide) (by simp;omega) rfl fun bV bW Y bX U aW =>?_
  refine⟨fun _=>(aW.to i6l),?_⟩
  refine so 7 ?_
  refine lj U aW 103 (k:=.i64) rfl rfl U32 lS rfl rfl rfl rfl fun bY Y bZ U aB =>?_
  refine⟨aB.to i6l,?_⟩
  refine so 8 ?_
  refine lE U aB 102 rfl rfl rfl (aB.numsO (i:=103) rfl) U32 lS (by decide) (by simp;omega) rfl fun b0 b1 Y b4 U aC =>?_
  refine⟨aC.to i6l,?_⟩
  refine so 13 ?_
  refine lE U aC 102 rfl rfl rfl (aC.nums (i:=101) rfl) U32 lS (by decide) (by simp;omega) rfl fun b5 b6 Y b7 U aD =>?_
  refine⟨aD.to i6l,?_⟩
  refine goA aa [14] 1 16383 32767 U (aD.to i6l) (.fa 9 rfl U34 .nil) fun Y U =>?_
  refine se 15 ?_
  refine st1 U aD 8 ug fun b8 aX _ =>?_
  refine wad ?_
  refine hK4 _ _ ?_
  replace U:=U.oz [2,3,4,6,72,81]
  refine zsr fun cI bi =>?_
  refine k9 U (.loadBR aX (i:=8) rfl rfl U34 rfl ld (by simp) (by dsimp only [List.drop,List.take] <;> rfl) .nil) fun Y U =>?_
  refine plz (stw U aX 10 ld fun b9 aY _ =>?_)
  refine gz bi U (.assign rfl .nil) fun Y U =>?_
  refine rtd (lL (fn:=Tryz.f121) U aY (i:=10) rfl rfl rfl rfl U34 rfl ld ?_)
  have aZ:=aY.freezeN 102 rfl
  have hS:=nT (k:=k) hsp hall (by omega) (by omega)
  rw[hS] at aZ ⊢
  exact⟨qK (pins++[at0]),0,_,_,rfl,by rw[tP,show lV hi fl at0 ws.length=0 from by rw[lV,if_neg (by simp_all),if_neg (by omega),if_neg (by omega)]];rfl,aZ.ren [(1,1),(2,2),(3,3),(6,102)] (by decide)⟩
 refine lj U ag 102 (k:=.i64) rfl rfl U32 lS rfl rfl rfl rfl fun ca Y cb U aE =>?_
 refine⟨fun _=>(aE.to i6l),?_⟩
 refine so 4 ?_
 refine oa U aE 103 rfl rfl (aE.nums (i:=100) rfl) U32 lS (by decide) (by simp;omega) rfl fun cc cd Y ce U aF =>?_
 refine⟨aF.to i6l,?_⟩
 refine so 8 ?_
 refine lE U aF 103 rfl rfl rfl (aF.numsO (i:=102) rfl) U32 lS (by decide) (by simp;omega) rfl fun cf cg Y ci U aG =>?_
 refine⟨aG.to i6l,?_⟩
 refine so 13 ?_
 refine lE U aG 103 rfl rfl rfl (aG.nums (i:=101) rfl) U32 lS (by decide) (by simp;omega) rfl fun cj ck Y cl U aH =>?_
 refine⟨aH.to i6l,?_⟩
 refine goA aa [14] 1 16383 32767 U (aH.to i6l) (.fa 9 rfl U34 .nil) fun Y U =>?_
 refine se 15 ?_
 refine st1 U aH 8 ug fun cm a0 _ =>?_
 refine wad ?_
 refine hK4 _ _ ?_
 replace U:=U.oz [2,3,4,6,72,81]
 refine zsr fun cJ bj =>?_
 refine k9 U (.loadBR a0 (i:=8) rfl rfl U34 rfl ld (by simp) (by dsimp only [List.drop,List.take] <;> rfl) .nil) fun Y U =>?_
 refine plz (stw U a0 10 ld fun co a1 _ =>?_)
 refine gz bj U (.assign rfl .nil) fun Y U =>?_
 refine rtd (lL (fn:=Tryz.f121) U a1 (i:=10) rfl rfl rfl rfl U34 rfl ld ?_)
 have a2:=a1.freezeN 103 rfl
 have hS:=nT (k:=k) hsp hall (by omega) (by omega)
 rw[hS] at a2 ⊢
 exact⟨qK (pins++[at0]),0,_,_,rfl,by rw[tP,show lV hi fl at0 ws.length=0 from by rw[lV,if_neg (by simp_all),if_neg (by omega),if_neg (by omega)]];rfl,a2.ren [(1,1),(2,2),(3,3),(6,103)] (by decide)⟩
theorem zU(X:Cx)(vo bl sz pe to ne fl:Int)(hi:Bool)(place pins:List Int)(ws:List (Int×List (Int×List Int)))(pp pn pw:Option Addr)(cp cn9 cw:Nat)(v1 v2 v3 v4 v5 at0 v6:Int)(q1:Option Addr)(n1 c1:Nat)(q2:Option Addr)(n2 c2:Nat)(w0:World)(hp:pins.length≤900000)(m0:MemOk X w0 [(1,.dat (.slice pp place.length cp) (.ns .i64 place)),(2,.dat (.slice pn pins.length cn9) (.ns .i64 pins)),(3,.dat (.slice pw (ws.map wrD).length cw) (.l 2 (ws.map wrD)))] w0) :
   Calls Tryz.prog 121 #[.agg #[.int .i64 vo,.int .i64 bl,.int .i64 sz,.int .i64 pe,.slice pp place.length cp,.int .i64 to,.int .i64 ne,.bool hi,.int .i64 fl,.slice pn pins.length cn9,.slice pw (ws.map wrD).length cw],.agg #[.int .i64 5,.int .i64 v1,.int .i64 v2,.int .i64 v3,.int .i64 v4,.slice q1 n1 c1,.int .i64 v5,.int .i64 at0,.int .i64 v6,.slice q2 n2 c2]] w0 fun e w' => ∃ (pins':List Int) (e9:Int) (p2':Option Addr) (d2':Nat),e=.returned (.tuple #[.agg #[.int .i64 vo,.int .i64 bl,.int .i64 sz,.int .i64 pe,.slice pp place.length cp,.int .i64 to,.int .i64 ne,.bool hi,.int .i64 fl,.slice p2' pins'.length d2',.slice pw (ws.map wrD).length cw],.int .i64 e9])∧oG hi at0 pins=(pins',e9)∧MemOk X w0 [(1,.dat (.slice pp place.length cp) (.ns .i64 place)),(2,.dat (.slice pn pins.length cn9) (.ns .i64 pins)),(3,.dat (.slice pw (ws.map wrD).length cw) (.l 2 (ws.map wrD))),(6,.dat (.slice p2' pins'.length d2') (.ns .i64 pins'))] w':=by
 refine mR Tryz.func121 rfl Tryz.ntmps121 fun Y U =>?_
 refine zsr fun K0 hK0 =>?_
 refine plz (ly U m0 20 (cs:=[_,_,_,_,_,_,_,_,_,_,_]) rfl rfl rfl fun g1 Y w2 U m2 _ _ =>?_)
 refine plz (ly U m2 21 (cs:=[_,_,_,_,_,_,_,_,_,_]) rfl rfl rfl fun g3 Y w4 U m4 _ _ =>?_)
 refine plz (lc U m4 22 mo rfl fun g5 Y w6 U m6 _ _ =>?_)
 refine gz hK0 U (.assign rfl .nil) fun Y U =>?_
 refine wsk fun K1 hK1 =>?_
 refine la U (.fa 0 rfl lx<|.lb m6 21 U3 rfl rfl rfl .nil) fun Y U =>?_
 refine wp_block ?_
 refine wsk fun K2 hK2 =>?_
 refine la U (.eql rfl rfl<|.assign rfl .nil) fun Y U =>?_
 refine bc U 10 ?_ ?_
 · intro hb _;exact absurd hb (by simp)
 clear U;intro _ U
 refine wcf U ?_
 refine la U (.eql rfl rfl<|.assign rfl .nil) fun Y U =>?_
 refine bc U 10 ?_ ?_
 · intro hb _;exact absurd hb (by simp)
 clear U;intro _ U
 refine wcf U ?_
 refine la U (.eql rfl rfl<|.assign rfl .nil) fun Y U =>?_
 refine bc U 10 ?_ ?_
 · intro hb _;exact absurd hb (by simp)
 clear U;intro _ U
 refine wcf U ?_
 replace U:=U.oz [2,3,4,5,9,10]
 refine wp_region_lit ?_
 refine gz hK2 U (.eql rfl rfl<|.assign rfl<|.nil) fun Y U =>?_
 refine bc U 10 ?_ ?_
 rotate_left
 · intro hb _;exact absurd hb (by simp)
 clear U;intro _ U
 refine wct U ?_
 refine la U (.fa 7 rfl U34<|.lb m6 20 U4 rfl rfl rfl .nil) fun Y U =>?_
 refine bc U 16 ?_ ?_
 ·
  intro ab U;try simp only [QQ,Qax] at ab
  refine wct U ?_
  refine zsr fun K3 hK3 =>?_
  refine k9 U (.loadBR m6 (i:=20) rfl rfl U34 rfl ld (by simp) (by dsimp only [List.drop,List.take] <;> rfl) .nil) fun Y U =>?_
  refine plz (stw U m6 22 ld fun aG ah _ =>?_)
  refine gz hK3 U (.assign rfl .nil) fun Y U =>?_
  refine rtd (lL (fn:=Tryz.f121) U ah (i:=22) rfl rfl rfl rfl U34 rfl ld ?_)
  have aD:=ah.dat 23 rfl (ah.rd (i:=2) rfl)
  exact⟨pins,28,_,_,rfl,by rw[oG,if_pos (by left;assumption)],aD.ren [(1,1),(2,2),(3,3),(6,23)] (by decide)⟩
 intro ab U;try simp only [QQ,Qax] at ab
 refine wcf U ?_
 refine zss (hK1 _ _ ?_)
 refine wsk fun K4 hK4 =>?_
 refine la U (.fa 0 rfl lx<|.lb m6 21 U3 rfl rfl rfl .nil) fun Y U =>?_
 refine wp_block ?_
 refine la U (.eql rfl rfl<|.assign rfl .nil) fun Y U =>?_
 refine bc U 21 ?_ ?_
 · intro hb _;exact absurd hb (by simp)
 clear U;intro _ U
 refine wcf U ?_
 replace U:=U.oz [2,3,4,5,16,19]
 refine la U (.eql rfl rfl<|.assign rfl .nil) fun Y U =>?_
 refine bc U 36 ?_ ?_
 · intro hb _;exact absurd hb (by simp)
 clear U;intro _ U
 refine wcf U ?_
 refine la U (.eql rfl rfl<|.assign rfl .nil) fun Y U =>?_
 refine bc U 53 ?_ ?_
 · intro hb _;exact absurd hb (by simp)
 clear U;intro _ U
 refine wcf U ?_
 refine la U (.eql rfl rfl<|.assign rfl .nil) fun Y U =>?_
 refine bc U 99 ?_ ?_
 rotate_left
 · intro hb _;exact absurd hb (by simp)
 clear U;intro _ U
 refine wct U ?_
 refine wsk fun K5 hK5 =>?_
 replace U:=U.oz [2,3,4,5,16,19]
 refine la U (.assign rfl .nil) fun Y U =>?_
 refine wp_block ?_
 refine wp_loop_ghost (fun g a w => ∃ (k B8 B9 ai:Nat),k≤pins.length∧g=pins.length - k∧(∀ j,j<k→pins.getD j 0≠at0)∧Has 197 [(2,.pointer (some ⟨B8,0,none⟩)),(3,.pointer (some ⟨B9,0,none⟩)),(4,.pointer (some ⟨ai,0,none⟩)),(7,.int .i64 k)] a∧MemOk X w0 [(1,.dat (.slice pp place.length cp) (.ns .i64 place)),(2,.dat (.slice pn pins.length cn9) (.ns .i64 pins)),(3,.dat (.slice pw (ws.map wrD).length cw) (.l 2 (ws.map wrD))),(8,.box B8 34 [.int .i64 vo,.int .i64 bl,.int .i64 sz,.int .i64 pe,.slice pp place.length cp,.int .i64 to,.int .i64 ne,.bool hi,.int .i64 fl,.slice pn pins.length cn9,.slice pw (ws.map wrD).length cw]),(9,.box B9 125 [.int .i64 5,.int .i64 v1,.int .i64 v2,.int .i64 v3,.int .i64 v4,.slice q1 n1 c1,.int .i64 v5,.int .i64 at0,.int .i64 v6,.slice q2 n2 c2]),(10,.box ai 34 [.int .i64 0,.int .i64 0,.int .i64 0,.int .i64 0,.slice none 0 0,.int .i64 0,.int .i64 0,.bool false,.int .i64 0,.slice none 0 0,.slice none 0 0])] w) (pins.length) ?_ ?_
 · exact⟨0,_,_,_,Nat.zero_le _,rfl,(fun j hj=>by omega),U.only [2,3,4,7],m6.ren [(1,1),(2,2),(3,3),(8,20),(9,21),(10,22)] (by decide)⟩
 clear U m6
 rintro g Y aH ⟨k,B8,B9,ai,hkl,hg,hall,U,ag⟩
 refine wsk fun K6 hK6 =>?_
 refine la U (.move rfl<|.fa 9 rfl U34<|.lb ag 8 U32 rfl rfl rfl<|.len rfl U32<|.lss rfl rfl .nil) fun Y U =>?_
 refine bc U 105 ?_ ?_
 ·
  intro ac U;try simp only [QQ,Qax] at ac
  obtain⟨hk,hkk⟩:k<pins.length∧True:=⟨by omega,trivial⟩
  refine wct U ?_
  refine zss (hK6 _ _ ?_)
  refine wsk fun K7 hK7 =>?_
  refine wp_block ?_
  refine wsk fun K8 hK8 =>?_
  obtain⟨aI,aJ,aj,aE⟩:=ag.openN (i:=2) rfl (k) (by omega) 100 rfl
  revert U
  cases aj
  intro U
  have ak:=aE.oz [1,2,3,8,9,10,100]
  refine region_p 8 (B:=[(1,_),(2,_),(3,_),(8,_),(9,_),(10,_),(100,_)]) (ak.to i7l) ak (by kernel_rfl) (fun aK al ao =>?_);clear ak
  refine goR al [0,1,2,3,4,5,6,7] [1,4,6] 8 0 255 U (ao.to i7l) (.fa 9 rfl U34<|.lb hh 8 U32 rfl rfl rfl<|.move rfl<|.p (fun _ _ h_=>li h_ rfl rfl U32 l3 (k) rfl (by omega))<|.loadC0 hh (i:=100) rfl rfl U2 rfl<|.fa 7 rfl lx<|.lb hh 9 U2 rfl rfl rfl<|.eql rfl rfl .nil) fun Y U =>?_
  refine wad ?_
  refine hK8 _ _ ?_
  refine bc U 115 ?_ ?_
  ·
   intro ad U;try simp only [QQ,Qax] at ad
   refine wct U ?_
   refine wsk fun K9 hK9 =>?_
   replace U:=U.oz [2,3,4,7,105,115]
   have ap:=ao.oz [1,2,3,8,9,10,100]
   refine region_p 12 (B:=[(1,_),(2,_),(3,_),(8,_),(9,_),(10,_),(100,_)]) (ap.to i7l) ap (by kernel_rfl) (fun aL aa aq =>?_);clear ap
   refine goR aa [0,1,2] [1] 3 0 7 U (aq.to i7l) (.fa 9 rfl U34<|.lb hh 8 U32 rfl rfl rfl<|.move rfl .nil) fun Y U =>?_
   have ae:=(aq.rd (i:=2) rfl).ns_out.cap
   have aA:=aq.takeN (i:=2) rfl (k) hkl 101 rfl
   refine goR aa [3,5,6,7,8] [6] 5 7 495 U (aA.to i7l) (.p (fun _ _ h_=>mD h_ (k) rfl rfl U32 l3 rfl (Nat.le_trans hkl ae.1))<|.fa 9 rfl U34<|.lb hh 8 U32 rfl rfl rfl<|.move rfl<|.add rfl rfl (r:=((k+1:Nat):Int)) (by rw[IntWalk.i64_in _ (by omega)];omega) .nil) fun Y U =>?_
   have ar:=aA.dropN (i:=2) rfl (k+1) (show k+1≤pins.length by omega) 102 rfl
   refine goA aa [9] 1 495 1007 U (ar.to i7l) (.p (fun _ _ h_=>lK h_ (k+1) rfl rfl U32 l3 rfl (show k+1≤pins.length by omega)) .nil) fun Y U =>?_
   refine so 4 ?_
   refine oa U ar 103 rfl rfl (ar.nums (i:=101) rfl) U32 lS (by decide) (by simp;omega) rfl fun aM aN Y aO U au =>?_
   refine⟨au.to i7l,?_⟩
   refine so 10 ?_
   refine lE U au 103 rfl rfl rfl (au.nums (i:=102) rfl) U32 lS (by decide) (by simp;omega) rfl fun aP aQ Y aR U av =>?_
   refine⟨av.to i7l,?_⟩
   refine goA aa [11] 1 2047 4095 U (av.to i7l) (.fa 9 rfl U34 .nil) fun Y U =>?_
   refine se 12 ?_
   refine st1 U av 8 ug fun aS aB _ =>?_
   refine wad ?_
   refine hK9 _ _ ?_
   replace U:=U.oz [2,3,4,7,105,115]
   refine zsr fun aT aw =>?_
   refine k9 U (.loadBR aB (i:=8) rfl rfl U34 rfl ld (by simp) (by dsimp only [List.drop,List.take] <;> rfl) .nil) fun Y U =>?_
   refine plz (stw U aB 10 ld fun aU aC _ =>?_)
   refine gz aw U (.assign rfl .nil) fun Y U =>?_
   refine rtd (lL (fn:=Tryz.f121) U aC (i:=10) rfl rfl rfl rfl U34 rfl ld ?_)
   have aF:=aC.freezeN 103 rfl
   have hI:=Lib.idxOf_hit pins pins.length k at0 hk (Nat.le_refl _) (by omega) hall
   rw[List.take_length] at hI
   exact⟨pins.take k++pins.drop (k+1),0,_,_,rfl,by rw[oG,if_neg (by rintro(h|h) <;> first|omega|simp_all),hI];simp,aF.ren [(1,1),(2,2),(3,3),(6,103)] (by decide)⟩
  intro ad U;try simp only [QQ,Qax] at ad
  refine wcf U ?_
  refine zss (hK7 _ _ ?_)
  replace U:=U.oz [2,3,4,7,105,115]
  refine wp_region_lit ?_
  refine k9 U (.move rfl<|.inc (k+1)<|.assign rfl .nil) fun Y U =>?_
  refine wpList_nil ?_
  show ∃ n',n'<_∧_
  exact⟨pins.length - (k+1),by omega,k+1,_,_,_,by omega,rfl,yW hall (by omega),U.only [2,3,4,7],ao.only [1,2,3,8,9,10]⟩
 intro ac U;try simp only [QQ,Qax] at ac
 revert U
 obtain rfl:k=pins.length:=by omega
 intro U
 refine wcf U ?_
 refine wp_exit ?_
 refine hK5 _ _ ?_
 refine zsr fun aV ax =>?_
 refine k9 U (.loadBR ag (i:=8) rfl rfl U34 rfl ld (by simp) (by dsimp only [List.drop,List.take] <;> rfl) .nil) fun Y U =>?_
 refine plz (stw U ag 10 ld fun aW ay _ =>?_)
 refine gz ax U (.assign rfl .nil) fun Y U =>?_
 refine rtd (lL (fn:=Tryz.f121) U ay (i:=10) rfl rfl rfl rfl U34 rfl ld ?_)
 have az:=ay.dat 100 rfl (ay.rd (i:=2) rfl)
 have hI:=Lib.idxOf_miss pins pins.length at0 hall
 rw[List.take_length] at hI
 exact⟨pins,28,_,_,rfl,by rw[oG,if_pos (by right;omega)],az.ren [(1,1),(2,2),(3,3),(6,100)] (by decide)⟩
end
end Go.Proofs.YteglmahnkfgelaaGreat.K
