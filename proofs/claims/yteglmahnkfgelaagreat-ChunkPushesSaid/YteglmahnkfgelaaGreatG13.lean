/- General laws of walks. -/
import Derived.Test.YteglmahnkfgelaaGreatG10
import Derived.Test.YteglmahnkfgelaaGreatG12
namespace Go.Proofs.YteglmahnkfgelaaGreat.K
open Go.ChangeShapes Go.WideShapes Go.ChangeAt Go.RowKit
set_option linter.unusedVariables false
set_option linter.unusedSimpArgs false
set_option maxRecDepth 100000
set_option maxHeartbeats 4000000
set_option autoImplicit true
set_option relaxedAutoImplicit true
section
theorem zW{l:List (Int×List Int)}{k:Nat}{xb:Int}{xd:List Int}(h:∀ j,j<k→(l.getD j i0).2.length≤32)(hes:l[k]? = some (xb,xd))(hk:xd.length≤32):∀ j,j<k+1→(l.getD j i0).2.length≤32:=fun j hj=>by
 rcases Nat.lt_or_ge j k with h1|h1
 · exact h j h1
 obtain rfl:j=k:=by omega
 rw[sI hes];exact hk
theorem AD{l:List (Int×List Int)}(h:∀ j,j<l.length→(l.getD j i0).2.length≤32):∀ e∈l,e.2.length≤32:=fun e he=>by
 obtain⟨j,hj,rfl⟩:=List.getElem_of_mem he
 have:=h j hj
 rwa [List.getD,List.getElem?_eq_getElem hj] at this
theorem nU(n:Int)(w0:World):Calls Tryz.prog 118 #[.int .i64 n] w0 fun e w' => ∃ b:Bool,e=.returned (.bool b)∧Below w0.heap.size w0 w':=by
 refine mp Tryz.func118 rfl Tryz.ntmps118 fun Y U =>?_
 have m0:=MemOk.start (fun _=>False) w0
 refine la U (.assign rfl .nil) fun Y U =>?_
 refine zsr fun K0 hK0 =>?_
 refine k9 U (.move rfl<|.geq rfl rfl<|.move rfl .nil) fun Y U =>?_
 refine bc U 5 ?_ ?_
 ·
  intro hb8 U;try simp only [QQ,Qax] at hb8
  refine gz hK0 U (.moveZ rfl<|.leqZ rfl rfl<|.pickT rfl rfl<|.assign rfl<|.nil) fun Y U =>?_
  refine rt1 U ?_
  exact⟨_,rfl,m0.below⟩
 intro hb8 U;try simp only [QQ,Qax] at hb8
 refine gz hK0 U (.sk<|.sk<|.pickF rfl rfl<|.assign rfl<|.nil) fun Y U =>?_
 refine rt1 U ?_
 exact⟨_,rfl,m0.below⟩
theorem vf(kd vo bl sz pe to at0 ix:Int)(place:List Int)(items:List (Int×List Int))(pp pi:Option Addr)(cp ni ci:Nat)(w0:World)(h0:Rd (fun _=>True) w0 (.slice pp place.length cp) (.ns .i64 place))(h1:Rd (fun _=>True) w0 (.slice pi ni ci) (.l 2 (items.map itD)))(hp:place.length≤1000000)(hl:items.length≤1000000) :
   Calls Tryz.prog 104 #[.agg #[.int .i64 kd,.int .i64 vo,.int .i64 bl,.int .i64 sz,.int .i64 pe,.slice pp place.length cp,.int .i64 to,.int .i64 at0,.int .i64 ix,.slice pi ni ci]] w0 fun e w' => ∃ b:Bool,e=.returned (.bool b)∧(b=true→place.length≤256∧items.length≤8∧∀ e∈items,e.2.length≤32)∧Below w0.heap.size w0 w':=by
 obtain rfl:ni=items.length:=by obtain⟨pq,c9,hv,_⟩:=h1.l_shape;injection hv with _ e2 _;rw[List.length_map] at e2;exact e2
 refine mp Tryz.func104 rfl Tryz.ntmps104 fun Y U =>?_
 have m0:=MemOk.start (fun _=>False) w0
 refine zsr fun K0 hK0 =>?_
 refine plz (ly U m0 20 (cs:=[_,_,_,_,_,_,_,_,_,_]) rfl rfl rfl fun g1 Y w2 U m2 _ _ =>?_)
 refine gz hK0 U (.assign rfl .nil) fun Y U =>?_
 refine wsk fun K1 hK1 =>?_
 refine zsr fun K2 hK2 =>?_
 refine k9 U (.fa 0 rfl lx<|.lb m2 20 U3 rfl rfl rfl<|.lss rfl rfl<|.move rfl .nil) fun Y U =>?_
 refine bc U 8 ?_ ?_
 ·
  intro aF U;try simp only [QQ,Qax] at aF
  refine gz hK2 U (.sk<|.sk<|.sk<|.pickT rfl rfl<|.move rfl<|.sk<|.sk<|.sk<|.pickT rfl rfl<|.move rfl<|.sk<|.sk<|.sk<|.pickT rfl rfl<|.move rfl<|.sk<|.sk<|.sk<|.sk<|.pickT rfl rfl<|.move rfl<|.sk<|.sk<|.sk<|.sk<|.pickT rfl rfl<|.move rfl<|.sk<|.sk<|.sk<|.sk<|.pickT rfl rfl<|.move rfl<|.sk<|.sk<|.sk<|.sk<|.pickT rfl rfl<|.move rfl<|.sk<|.sk<|.sk<|.sk<|.pickT rfl rfl<|.move rfl<|.sk<|.sk<|.sk<|.sk<|.pickT rfl rfl<|.move rfl<|.sk<|.sk<|.sk<|.sk<|.pickT rfl rfl<|.move rfl<|.sk<|.sk<|.sk<|.sk<|.pickT rfl rfl<|.nil) fun Y U =>?_
  refine wct U ?_
  replace U:=U.oz [1,2]
  refine la U (.assign rfl .nil) fun Y U =>?_
  refine rt1 U ?_
  exact⟨false,rfl,(fun h=>by cases h),m2.below⟩
 intro aF U;try simp only [QQ,Qax] at aF
 refine k9 U (.faZ 0 rfl lx<|.loadB1Z m2 (i:=20) rfl rfl rfl U3 rfl<|.gtrZ rfl rfl<|.pickF rfl rfl<|.move rfl .nil) fun Y U =>?_
 refine bc U 13 ?_ ?_
 ·
  intro aG U;try simp only [QQ,Qax] at aG
  refine gz hK2 U (.sk<|.sk<|.sk<|.pickT rfl rfl<|.move rfl<|.sk<|.sk<|.sk<|.pickT rfl rfl<|.move rfl<|.sk<|.sk<|.sk<|.sk<|.pickT rfl rfl<|.move rfl<|.sk<|.sk<|.sk<|.sk<|.pickT rfl rfl<|.move rfl<|.sk<|.sk<|.sk<|.sk<|.pickT rfl rfl<|.move rfl<|.sk<|.sk<|.sk<|.sk<|.pickT rfl rfl<|.move rfl<|.sk<|.sk<|.sk<|.sk<|.pickT rfl rfl<|.move rfl<|.sk<|.sk<|.sk<|.sk<|.pickT rfl rfl<|.move rfl<|.sk<|.sk<|.sk<|.sk<|.pickT rfl rfl<|.move rfl<|.sk<|.sk<|.sk<|.sk<|.pickT rfl rfl<|.nil) fun Y U =>?_
  refine wct U ?_
  replace U:=U.oz [1,2]
  refine la U (.assign rfl .nil) fun Y U =>?_
  refine rt1 U ?_
  exact⟨false,rfl,(fun h=>by cases h),m2.below⟩
 intro aG U;try simp only [QQ,Qax] at aG
 refine k9 U (.faZ 1 rfl lx<|.loadB1Z m2 (i:=20) rfl rfl rfl U3 rfl<|.lssZ rfl rfl<|.pickF rfl rfl<|.move rfl .nil) fun Y U =>?_
 refine bc U 18 ?_ ?_
 ·
  intro ah U;try simp only [QQ,Qax] at ah
  refine gz hK2 U (.sk<|.sk<|.sk<|.pickT rfl rfl<|.move rfl<|.sk<|.sk<|.sk<|.sk<|.pickT rfl rfl<|.move rfl<|.sk<|.sk<|.sk<|.sk<|.pickT rfl rfl<|.move rfl<|.sk<|.sk<|.sk<|.sk<|.pickT rfl rfl<|.move rfl<|.sk<|.sk<|.sk<|.sk<|.pickT rfl rfl<|.move rfl<|.sk<|.sk<|.sk<|.sk<|.pickT rfl rfl<|.move rfl<|.sk<|.sk<|.sk<|.sk<|.pickT rfl rfl<|.move rfl<|.sk<|.sk<|.sk<|.sk<|.pickT rfl rfl<|.move rfl<|.sk<|.sk<|.sk<|.sk<|.pickT rfl rfl<|.nil) fun Y U =>?_
  refine wct U ?_
  replace U:=U.oz [1,2]
  refine la U (.assign rfl .nil) fun Y U =>?_
  refine rt1 U ?_
  exact⟨false,rfl,(fun h=>by cases h),m2.below⟩
 intro ah U;try simp only [QQ,Qax] at ah
 refine k9 U (.faZ 1 rfl lx<|.loadB1Z m2 (i:=20) rfl rfl rfl U3 rfl<|.geqZ rfl rfl<|.pickF rfl rfl<|.move rfl .nil) fun Y U =>?_
 refine bc U 23 ?_ ?_
 ·
  intro ai U;try simp only [QQ,Qax] at ai
  refine gz hK2 U (.sk<|.sk<|.sk<|.sk<|.pickT rfl rfl<|.move rfl<|.sk<|.sk<|.sk<|.sk<|.pickT rfl rfl<|.move rfl<|.sk<|.sk<|.sk<|.sk<|.pickT rfl rfl<|.move rfl<|.sk<|.sk<|.sk<|.sk<|.pickT rfl rfl<|.move rfl<|.sk<|.sk<|.sk<|.sk<|.pickT rfl rfl<|.move rfl<|.sk<|.sk<|.sk<|.sk<|.pickT rfl rfl<|.move rfl<|.sk<|.sk<|.sk<|.sk<|.pickT rfl rfl<|.move rfl<|.sk<|.sk<|.sk<|.sk<|.pickT rfl rfl<|.nil) fun Y U =>?_
  refine wct U ?_
  replace U:=U.oz [1,2]
  refine la U (.assign rfl .nil) fun Y U =>?_
  refine rt1 U ?_
  exact⟨false,rfl,(fun h=>by cases h),m2.below⟩
 intro ai U;try simp only [QQ,Qax] at ai
 refine k9 U (.faZ 2 rfl lx<|.loadB1Z m2 (i:=20) rfl rfl rfl U3 rfl .nil) fun Y U =>?_
 refine stz U (ecl U Tryz.func118 rfl (nU _ _) ?_)
 rintro e bE ⟨a9,rfl,aS⟩
 have aH:=m2.later aS
 refine⟨_,rfl,?_⟩;intro Y U
 refine k9 U (.notZ rfl<|.pickF rfl rfl<|.move rfl .nil) fun Y U =>?_
 refine bc U 29 ?_ ?_
 ·
  intro aj U;try simp only [QQ,Qax] at aj
  refine gz hK2 U (.sk<|.sk<|.sk<|.sk<|.pickT rfl rfl<|.move rfl<|.sk<|.sk<|.sk<|.sk<|.pickT rfl rfl<|.move rfl<|.sk<|.sk<|.sk<|.sk<|.pickT rfl rfl<|.move rfl<|.sk<|.sk<|.sk<|.sk<|.pickT rfl rfl<|.move rfl<|.sk<|.sk<|.sk<|.sk<|.pickT rfl rfl<|.move rfl<|.sk<|.sk<|.sk<|.sk<|.pickT rfl rfl<|.move rfl<|.sk<|.sk<|.sk<|.sk<|.pickT rfl rfl<|.nil) fun Y U =>?_
  refine wct U ?_
  replace U:=U.oz [1,2]
  refine la U (.assign rfl .nil) fun Y U =>?_
  refine rt1 U ?_
  exact⟨false,rfl,(fun h=>by cases h),aH.below⟩
 intro aj U;try simp only [QQ,Qax] at aj
 refine k9 U (.faZ 3 rfl lx<|.loadB1Z aH (i:=20) rfl rfl rfl U3 rfl .nil) fun Y U =>?_
 refine stz U (ecl U Tryz.func118 rfl (nU _ _) ?_)
 rintro e bF ⟨ba,rfl,aT⟩
 have aI:=aH.later aT
 refine⟨_,rfl,?_⟩;intro Y U
 refine k9 U (.notZ rfl<|.pickF rfl rfl<|.move rfl .nil) fun Y U =>?_
 refine bc U 35 ?_ ?_
 ·
  intro ak U;try simp only [QQ,Qax] at ak
  refine gz hK2 U (.sk<|.sk<|.sk<|.sk<|.pickT rfl rfl<|.move rfl<|.sk<|.sk<|.sk<|.sk<|.pickT rfl rfl<|.move rfl<|.sk<|.sk<|.sk<|.sk<|.pickT rfl rfl<|.move rfl<|.sk<|.sk<|.sk<|.sk<|.pickT rfl rfl<|.move rfl<|.sk<|.sk<|.sk<|.sk<|.pickT rfl rfl<|.move rfl<|.sk<|.sk<|.sk<|.sk<|.pickT rfl rfl<|.nil) fun Y U =>?_
  refine wct U ?_
  replace U:=U.oz [1,2]
  refine la U (.assign rfl .nil) fun Y U =>?_
  refine rt1 U ?_
  exact⟨false,rfl,(fun h=>by cases h),aI.below⟩
 intro ak U;try simp only [QQ,Qax] at ak
 refine k9 U (.faZ 4 rfl lx<|.loadB1Z aI (i:=20) rfl rfl rfl U3 rfl .nil) fun Y U =>?_
 refine stz U (ecl U Tryz.func118 rfl (nU _ _) ?_)
 rintro e bG ⟨bb,rfl,aU⟩
 have aJ:=aI.later aU
 refine⟨_,rfl,?_⟩;intro Y U
 refine k9 U (.notZ rfl<|.pickF rfl rfl<|.move rfl .nil) fun Y U =>?_
 refine bc U 41 ?_ ?_
 ·
  intro al U;try simp only [QQ,Qax] at al
  refine gz hK2 U (.sk<|.sk<|.sk<|.sk<|.pickT rfl rfl<|.move rfl<|.sk<|.sk<|.sk<|.sk<|.pickT rfl rfl<|.move rfl<|.sk<|.sk<|.sk<|.sk<|.pickT rfl rfl<|.move rfl<|.sk<|.sk<|.sk<|.sk<|.pickT rfl rfl<|.move rfl<|.sk<|.sk<|.sk<|.sk<|.pickT rfl rfl<|.nil) fun Y U =>?_
  refine wct U ?_
  replace U:=U.oz [1,2]
  refine la U (.assign rfl .nil) fun Y U =>?_
  refine rt1 U ?_
  exact⟨false,rfl,(fun h=>by cases h),aJ.below⟩
 intro al U;try simp only [QQ,Qax] at al
 refine k9 U (.faZ 6 rfl lx<|.loadB1Z aJ (i:=20) rfl rfl rfl U3 rfl .nil) fun Y U =>?_
 refine stz U (ecl U Tryz.func118 rfl (nU _ _) ?_)
 rintro e bH ⟨bd,rfl,aV⟩
 have aK:=aJ.later aV
 refine⟨_,rfl,?_⟩;intro Y U
 refine k9 U (.notZ rfl<|.pickF rfl rfl<|.move rfl .nil) fun Y U =>?_
 refine bc U 47 ?_ ?_
 ·
  intro ao U;try simp only [QQ,Qax] at ao
  refine gz hK2 U (.sk<|.sk<|.sk<|.sk<|.pickT rfl rfl<|.move rfl<|.sk<|.sk<|.sk<|.sk<|.pickT rfl rfl<|.move rfl<|.sk<|.sk<|.sk<|.sk<|.pickT rfl rfl<|.move rfl<|.sk<|.sk<|.sk<|.sk<|.pickT rfl rfl<|.nil) fun Y U =>?_
  refine wct U ?_
  replace U:=U.oz [1,2]
  refine la U (.assign rfl .nil) fun Y U =>?_
  refine rt1 U ?_
  exact⟨false,rfl,(fun h=>by cases h),aK.below⟩
 intro ao U;try simp only [QQ,Qax] at ao
 refine k9 U (.faZ 8 rfl lx<|.loadB1Z aK (i:=20) rfl rfl rfl U3 rfl .nil) fun Y U =>?_
 refine stz U (ecl U Tryz.func118 rfl (nU _ _) ?_)
 rintro e bI ⟨be,rfl,aW⟩
 have aL:=aK.later aW
 refine⟨_,rfl,?_⟩;intro Y U
 refine k9 U (.notZ rfl<|.pickF rfl rfl<|.move rfl .nil) fun Y U =>?_
 refine bc U 53 ?_ ?_
 ·
  intro ap U;try simp only [QQ,Qax] at ap
  refine gz hK2 U (.sk<|.sk<|.sk<|.sk<|.pickT rfl rfl<|.move rfl<|.sk<|.sk<|.sk<|.sk<|.pickT rfl rfl<|.move rfl<|.sk<|.sk<|.sk<|.sk<|.pickT rfl rfl<|.nil) fun Y U =>?_
  refine wct U ?_
  replace U:=U.oz [1,2]
  refine la U (.assign rfl .nil) fun Y U =>?_
  refine rt1 U ?_
  exact⟨false,rfl,(fun h=>by cases h),aL.below⟩
 intro ap U;try simp only [QQ,Qax] at ap
 refine k9 U (.faZ 7 rfl lx<|.loadB1Z aL (i:=20) rfl rfl rfl U2 rfl .nil) fun Y U =>?_
 refine stz U (ecl U Tryz.func118 rfl (nU _ _) ?_)
 rintro e bJ ⟨bf,rfl,aX⟩
 have ac:=aL.later aX
 refine⟨_,rfl,?_⟩;intro Y U
 refine k9 U (.notZ rfl<|.pickF rfl rfl<|.move rfl .nil) fun Y U =>?_
 refine bc U 59 ?_ ?_
 ·
  intro aq U;try simp only [QQ,Qax] at aq
  refine gz hK2 U (.sk<|.sk<|.sk<|.sk<|.pickT rfl rfl<|.move rfl<|.sk<|.sk<|.sk<|.sk<|.pickT rfl rfl<|.nil) fun Y U =>?_
  refine wct U ?_
  replace U:=U.oz [1,2]
  refine la U (.assign rfl .nil) fun Y U =>?_
  refine rt1 U ?_
  exact⟨false,rfl,(fun h=>by cases h),ac.below⟩
 intro aq U;try simp only [QQ,Qax] at aq
 refine k9 U (.faZ 5 rfl lx<|.loadB1Z ac (i:=20) rfl rfl rfl U31 rfl<|.lenZ rfl U31<|.gtrZ rfl rfl<|.pickF rfl rfl<|.move rfl .nil) fun Y U =>?_
 refine bc U 65 ?_ ?_
 ·
  intro ar U;try simp only [QQ,Qax] at ar
  refine gz hK2 U (.sk<|.sk<|.sk<|.sk<|.pickT rfl rfl<|.nil) fun Y U =>?_
  refine wct U ?_
  replace U:=U.oz [1,2]
  refine la U (.assign rfl .nil) fun Y U =>?_
  refine rt1 U ?_
  exact⟨false,rfl,(fun h=>by cases h),ac.below⟩
 intro ar U;try simp only [QQ,Qax] at ar
 refine gz hK2 U (.faZ 9 rfl lx<|.loadB1Z ac (i:=20) rfl rfl rfl U28 rfl<|.lenZ rfl U28<|.gtrZ rfl rfl<|.pickF rfl rfl<|.nil) fun Y U =>?_
 refine bc U 70 ?_ ?_
 ·
  intro au U;try simp only [QQ,Qax] at au
  refine wct U ?_
  replace U:=U.oz [1,2]
  refine la U (.assign rfl .nil) fun Y U =>?_
  refine rt1 U ?_
  exact⟨false,rfl,(fun h=>by cases h),ac.below⟩
 intro au U;try simp only [QQ,Qax] at au
 refine wcf U ?_
 refine zss (hK1 _ _ ?_)
 refine wsk fun K3 hK3 =>?_
 replace U:=U.oz [1,2]
 refine la U (.assign rfl .nil) fun Y U =>?_
 refine wp_block ?_
 refine wp_loop_ghost (fun g a w => ∃ (k B:Nat),k≤place.length∧g=place.length - k∧Has 125 [(1,.pointer (some ⟨B,0,none⟩)),(3,.int .i64 k)] a∧MemOk (cn w0) w0 [(9,.box B 125 [.int .i64 kd,.int .i64 vo,.int .i64 bl,.int .i64 sz,.int .i64 pe,.slice pp place.length cp,.int .i64 to,.int .i64 at0,.int .i64 ix,.slice pi items.length ci])] w) (place.length) ?_ ?_
 · exact⟨0,_,Nat.zero_le _,rfl,U.only [1,3],ac.ren [(9,20)] (by decide)⟩
 clear U ac
 rintro g Y bK ⟨k,B,hkl,hg,U,ab⟩
 refine wsk fun K4 hK4 =>?_
 refine la U (.move rfl<|.fa 5 rfl lx<|.lb ab 9 U31 rfl rfl rfl<|.len rfl U31<|.lss rfl rfl .nil) fun Y U =>?_
 refine bc U 75 ?_ ?_
 ·
  intro av U;try simp only [QQ,Qax] at av
  have hk:k<place.length:=by omega
  refine wct U ?_
  refine zss (hK4 _ _ ?_)
  refine wsk fun K5 hK5 =>?_
  refine wp_block ?_
  refine zsr fun K6 hK6 =>?_
  refine k9 U (.fa 5 rfl lx<|.lb ab 9 U31 rfl rfl rfl<|.move rfl .nil) fun Y U =>?_
  obtain⟨bg,bh,aY,bi,aM⟩:=h0.extN (k) hk
  revert U
  cases aY
  intro U
  refine k9 U (.c rfl (fun _ h_=>li h_ rfl rfl U31 ma (k) rfl hk)<|.loadAt1 (aM ab rfl) (q:=0) rfl rfl rfl U3 rfl<|.lss rfl rfl<|.move rfl .nil) fun Y U =>?_
  refine bc U 84 ?_ ?_
  ·
   intro aw U;try simp only [QQ,Qax] at aw
   refine gz hK6 U (.sk<|.sk<|.sk<|.sk<|.sk<|.sk<|.pickT rfl rfl<|.nil) fun Y U =>?_
   refine wct U ?_
   replace U:=U.oz [1,3]
   refine la U (.assign rfl .nil) fun Y U =>?_
   refine rt1 U ?_
   exact⟨false,rfl,(fun h=>by cases h),ab.below⟩
  intro aw U;try simp only [QQ,Qax] at aw
  refine k9 U (.faZ 5 rfl lx<|.loadB1Z ab (i:=9) rfl rfl rfl U31 rfl<|.moveZ rfl .nil) fun Y U =>?_
  obtain⟨bj,bk,aZ,bm,aN⟩:=h0.extN (k) hk
  revert U
  cases aZ
  intro U
  refine gz hK6 U (.g rfl rfl rfl rfl (fun _ h_=>li h_ rfl rfl U31 ma (k) rfl hk)<|.loadAt1Z (aN ab rfl) (q:=0) rfl rfl rfl U3 rfl<|.geqZ rfl rfl<|.pickF rfl rfl<|.nil) fun Y U =>?_
  refine bc U 91 ?_ ?_
  ·
   intro ax U;try simp only [QQ,Qax] at ax
   refine wct U ?_
   replace U:=U.oz [1,3]
   refine la U (.assign rfl .nil) fun Y U =>?_
   refine rt1 U ?_
   exact⟨false,rfl,(fun h=>by cases h),ab.below⟩
  intro ax U;try simp only [QQ,Qax] at ax
  refine wcf U ?_
  refine zss (hK5 _ _ ?_)
  replace U:=U.oz [1,3]
  refine wp_region_lit ?_
  refine k9 U (.move rfl<|.inc (k+1)<|.assign rfl .nil) fun Y U =>?_
  refine wpList_nil ?_
  show ∃ n',n'<_∧_
  exact⟨place.length - (k+1),by omega,k+1,_,by omega,rfl,U.only [1,3],ab.only [9]⟩
 intro av U;try simp only [QQ,Qax] at av
 refine wcf U ?_
 refine wp_exit ?_
 refine hK3 _ _ ?_
 refine wsk fun K7 hK7 =>?_
 refine la U (.assign rfl .nil) fun Y U =>?_
 refine wp_block ?_
 refine wp_loop_ghost (fun g a w => ∃ (k B:Nat),k≤items.length∧g=items.length - k∧(∀ j,j<k→(items.getD j i0).2.length≤32)∧Has 125 [(1,.pointer (some ⟨B,0,none⟩)),(4,.int .i64 k)] a∧MemOk (cn w0) w0 [(9,.box B 125 [.int .i64 kd,.int .i64 vo,.int .i64 bl,.int .i64 sz,.int .i64 pe,.slice pp place.length cp,.int .i64 to,.int .i64 at0,.int .i64 ix,.slice pi items.length ci])] w) (items.length) ?_ ?_
 · exact⟨0,_,Nat.zero_le _,rfl,(fun j hj=>by omega),U.only [1,4],ab.ren [(9,9)] (by decide)⟩
 clear U ab
 rintro g Y bL ⟨k,B,hkl,hg,hall,U,aa⟩
 refine wsk fun K8 hK8 =>?_
 refine la U (.move rfl<|.fa 9 rfl lx<|.lb aa 9 U28 rfl rfl rfl<|.len rfl U28<|.lss rfl rfl .nil) fun Y U =>?_
 refine bc U 96 ?_ ?_
 ·
  intro ay U;try simp only [QQ,Qax] at ay
  have hk:k<items.length:=by omega
  obtain⟨⟨xb,xd⟩,hes⟩:∃ e,items[k]? = some e:=⟨_,List.getElem?_eq_getElem hk⟩
  refine wct U ?_
  refine zss (hK8 _ _ ?_)
  refine wsk fun K9 hK9 =>?_
  refine wp_block ?_
  refine zsr fun bS aO =>?_
  refine k9 U (.fa 9 rfl lx<|.lb aa 9 U28 rfl rfl rfl<|.move rfl .nil) fun Y U =>?_
  obtain⟨bn,bo,bp,a0,bq,a1,aP⟩:=h1.extA (k) (r:=[.v (.int .i64 xb),.ns .u8 xd]) (lm hes)
  revert U
  cases a0
  rcases a1 with _|⟨ad,_|⟨aC,_|_⟩⟩
  obtain rfl:=ad.v_out
  clear ad
  obtain⟨bM,bN,a2,br⟩:=aC.ns_shape;subst a2
  intro U
  refine k9 U (.c rfl (fun _ h_=>li h_ rfl rfl U28 lX (k) rfl hk)<|.fieldAddrQ 0 rfl U78 rfl (s:=0) (by kernel_rfl) rfl<|.loadAt1 (aP aa rfl) (q:=0) rfl rfl rfl U3 rfl<|.lss rfl rfl<|.move rfl .nil) fun Y U =>?_
  refine bc U 106 ?_ ?_
  ·
   intro az U;try simp only [QQ,Qax] at az
   refine gz aO U (.sk<|.sk<|.sk<|.sk<|.sk<|.sk<|.sk<|.pickT rfl rfl<|.move rfl<|.sk<|.sk<|.sk<|.sk<|.sk<|.sk<|.sk<|.sk<|.pickT rfl rfl<|.nil) fun Y U =>?_
   refine wct U ?_
   replace U:=U.oz [1,4]
   refine la U (.assign rfl .nil) fun Y U =>?_
   refine rt1 U ?_
   exact⟨false,rfl,(fun h=>by cases h),aa.below⟩
  intro az U;try simp only [QQ,Qax] at az
  refine k9 U (.faZ 9 rfl lx<|.loadB1Z aa (i:=9) rfl rfl rfl U28 rfl<|.moveZ rfl .nil) fun Y U =>?_
  obtain⟨bs,bt,bu,a3,bv,a4,aQ⟩:=h1.extA (k) (r:=[.v (.int .i64 xb),.ns .u8 xd]) (lm hes)
  revert U
  cases a3
  rcases a4 with _|⟨ae,_|⟨aD,_|_⟩⟩
  obtain rfl:=ae.v_out
  clear ae
  obtain⟨bO,bP,a5,bw⟩:=aD.ns_shape;subst a5
  intro U
  refine k9 U (.g rfl rfl rfl rfl (fun _ h_=>li h_ rfl rfl U28 lX (k) rfl hk)<|.fieldAddrQZ 0 rfl U78 rfl (s:=0) (by kernel_rfl) rfl<|.loadAt1Z (aQ aa rfl) (q:=0) rfl rfl rfl U3 rfl<|.geqZ rfl rfl<|.pickF rfl rfl<|.move rfl .nil) fun Y U =>?_
  refine bc U 115 ?_ ?_
  ·
   intro aA U;try simp only [QQ,Qax] at aA
   refine gz aO U (.sk<|.sk<|.sk<|.sk<|.sk<|.sk<|.sk<|.sk<|.pickT rfl rfl<|.nil) fun Y U =>?_
   refine wct U ?_
   replace U:=U.oz [1,4]
   refine la U (.assign rfl .nil) fun Y U =>?_
   refine rt1 U ?_
   exact⟨false,rfl,(fun h=>by cases h),aa.below⟩
  intro aA U;try simp only [QQ,Qax] at aA
  refine k9 U (.faZ 9 rfl lx<|.loadB1Z aa (i:=9) rfl rfl rfl U28 rfl<|.moveZ rfl .nil) fun Y U =>?_
  obtain⟨bx,bz,bA,a6,bB,a7,aR⟩:=h1.extA (k) (r:=[.v (.int .i64 xb),.ns .u8 xd]) (lm hes)
  revert U
  cases a6
  rcases a7 with _|⟨ag,_|⟨aE,_|_⟩⟩
  obtain rfl:=ag.v_out
  clear ag
  obtain⟨bQ,bR,a8,bC⟩:=aE.ns_shape;subst a8
  intro U
  refine gz aO U (.g rfl rfl rfl rfl (fun _ h_=>li h_ rfl rfl U28 lX (k) rfl hk)<|.fieldAddrQZ 1 rfl U78 rfl (s:=0) (by kernel_rfl) rfl<|.loadAt1Z (aR aa rfl) (q:=1) rfl rfl rfl U22 rfl<|.lenZ rfl U22<|.gtrZ rfl rfl<|.pickF rfl rfl<|.nil) fun Y U =>?_
  refine bc U 124 ?_ ?_
  ·
   intro aB U;try simp only [QQ,Qax] at aB
   refine wct U ?_
   replace U:=U.oz [1,4]
   refine la U (.assign rfl .nil) fun Y U =>?_
   refine rt1 U ?_
   exact⟨false,rfl,(fun h=>by cases h),aa.below⟩
  intro aB U;try simp only [QQ,Qax] at aB
  refine wcf U ?_
  refine zss (hK9 _ _ ?_)
  replace U:=U.oz [1,4]
  refine wp_region_lit ?_
  refine k9 U (.move rfl<|.inc (k+1)<|.assign rfl .nil) fun Y U =>?_
  refine wpList_nil ?_
  show ∃ n',n'<_∧_
  exact⟨items.length - (k+1),by omega,k+1,_,by omega,rfl,zW hall hes (by omega),U.only [1,4],aa.only [9]⟩
 intro ay U;try simp only [QQ,Qax] at ay
 have hk9:k=items.length:=by omega
 refine wcf U ?_
 refine wp_exit ?_
 refine hK7 _ _ ?_
 refine la U (.assign rfl .nil) fun Y U =>?_
 refine rt1 U ?_
 exact⟨true,rfl,(fun _=>⟨by omega,by omega,AD (by rw[hk9] at hall;exact hall)⟩),aa.below⟩
end
section
theorem vg(kd vo bl sz pe to at0 ix:Int)(place:List Int)(items:List (Int×List Int))(pp pi:Option Addr)(cp ni ci:Nat)(w0:World)(h0:Rd (fun _=>True) w0 (.slice pp place.length cp) (.ns .i64 place))(h1:Rd (fun _=>True) w0 (.slice pi ni ci) (.l 2 (items.map itD)))(hp:place.length≤1000000)(hl:items.length≤1000000)(hib:∀ e∈items,lg e.2) :
   Calls Tryz.prog 73 #[.agg #[.int .i64 kd,.int .i64 vo,.int .i64 bl,.int .i64 sz,.int .i64 pe,.slice pp place.length cp,.int .i64 to,.int .i64 at0,.int .i64 ix,.slice pi ni ci]] w0 fun e w' => ∃ (b:List Int) (p:Option Addr) (c:Nat) (e9:Int),e=.returned (.tuple #[.slice p b.length c,.int .i64 e9])∧b.length≤20000∧lg b∧Rd (New w0) w' (.slice p b.length c) (.ns .u8 b)∧Below w0.heap.size w0 w':=by
 obtain rfl:ni=items.length:=by obtain⟨pq,c9,hv,_⟩:=h1.l_shape;injection hv with _ e2 _;rw[List.length_map] at e2;exact e2
 refine mp Tryz.func73 rfl Tryz.ntmps73 fun Y U =>?_
 have m0:=MemOk.start (fun _=>False) w0
 refine zsr fun K0 hK0 =>?_
 refine plz (ly U m0 20 (cs:=[_,_,_,_,_,_,_,_,_,_]) rfl rfl rfl fun g1 Y w2 U m2 _ _ =>?_)
 refine gz hK0 U (.assign rfl<|.assign rfl<|.nil) fun Y U =>?_
 refine wsk fun K1 hK1 =>?_
 refine zsr fun K2 hK2 =>?_
 refine k9 U (.loadBR m2 (i:=20) rfl rfl lx rfl lY (by simp) (by dsimp only [List.drop,List.take] <;> rfl) .nil) fun Y U =>?_
 refine plz (ecl U Tryz.func104 rfl (vf _ _ _ _ _ _ _ _ place items _ _ _ _ _ _ ((h0.now' m2 rfl).any) ((h1.now' m2 rfl).any) hp hl) ?_)
 rintro e w7 ⟨cb,rfl,hcb,hb7⟩
 have m8:=m2.later hb7
 refine⟨_,rfl,?_⟩;intro Y U
 refine gz hK2 U (.not rfl .nil) fun Y U =>?_
 refine bc U 7 ?_ ?_
 ·
  intro aa U;try simp only [QQ,Qax] at aa
  refine wct U ?_
  refine la U (.assign rfl<|.assign rfl .nil) fun Y U =>?_
  refine rt2 U ?_
  exact⟨[],none,0,23,rfl,by simp,(fun _ h=>by cases h),Rd.nilN _ _ .u8 none,m8.below⟩
 intro aa U;try simp only [QQ,Qax] at aa
 have hcc:=hcb (by simp_all)
 refine wcf U ?_
 refine zss (hK1 _ _ ?_)
 refine zsr fun K3 hK3 =>?_
 refine k9 U (.fa 0 rfl lx<|.lb m8 20 U3 rfl rfl rfl<|.fa 1 rfl lx<|.lb m8 20 U3 rfl rfl rfl<|.fa 2 rfl lx<|.lb m8 20 U3 rfl rfl rfl<|.fa 3 rfl lx<|.lb m8 20 U3 rfl rfl rfl<|.fa 4 rfl lx<|.lb m8 20 U3 rfl rfl rfl<|.fa 6 rfl lx<|.lb m8 20 U3 rfl rfl rfl<|.fa 7 rfl lx<|.lb m8 20 U2 rfl rfl rfl<|.fa 8 rfl lx<|.lb m8 20 U3 rfl rfl rfl .nil) fun Y U =>?_
 refine plz (lj U m8 21 (k:=.i64) rfl rfl U32 lS rfl rfl rfl rfl fun ax Y ay U av =>?_)
 have ar:=av.freezeN 21 rfl
 refine plz (ecl U Tryz.func105 rfl (sv [kd,vo,bl,sz,pe,to,at0,ix] _ _ _ ((ar.rd (i:=21) rfl).any) (by simp)) ?_)
 rintro e az ⟨d0,aA,aB,rfl,hld0,hbd0,ac,ad⟩
 have aw:=ar.newN 22 ad ac
 refine⟨_,rfl,?_⟩;intro Y U
 refine gz hK3 U (.assign rfl .nil) fun Y U =>?_
 refine wsk fun K4 hK4 =>?_
 replace U:=U.oz [1,2,3,4]
 have ae:=aw.oz [20,21,22]
 refine region_p 11 (B:=[(20,_)]) (ae.to i1l) ae (by kernel_rfl) (fun aC ab ag =>?_);clear ae
 refine goR ab [0,1,2,5,6] [2,6] 5 0 103 U (ag.to i1l) (.move rfl<|.fa 5 rfl lx<|.lb hh 20 U31 rfl rfl rfl<|.fa 9 rfl lx<|.lb hh 20 U28 rfl rfl rfl .nil) fun Y U =>?_
 refine so 3 ?_
 refine ecl U Tryz.func106 rfl (zV place _ _ _ ((h0.now' ag rfl).any) hp) ?_
 rintro e aD ⟨d1,aE,aF,rfl,hld1,hbd1,ah,ai⟩
 have aj:=ag.newN 23 ai ah
 refine⟨_,rfl,?_⟩;intro Y U
 refine⟨aj.to i1l,?_⟩
 refine so 4 ?_
 refine lE U aj 22 rfl rfl rfl (aj.numsO (i:=23) rfl) U22 lJ (by decide) (by simp at hld0;omega) rfl fun aG aH Y aI U ak =>?_
 refine⟨ak.to i1l,?_⟩
 refine so 7 ?_
 refine ecl U Tryz.func43 rfl (ve items _ _ _ _ ((h1.now' ak rfl).any) (by omega) (fun e he=>⟨by have:=hcc.2.2 e he;omega,hib e he⟩)) ?_
 rintro e aJ ⟨d2,aK,aL,rfl,hld2,hbd2,al,ao⟩
 have ap:=ak.newN 24 ao al
 refine⟨_,rfl,?_⟩;intro Y U
 refine⟨ap.to i1l,?_⟩
 refine so 8 ?_
 refine lE U ap 22 rfl rfl rfl (ap.numsO (i:=24) rfl) U22 lJ (by decide) (by simp at hld0 ⊢;omega) rfl fun aM aN Y aO U aq =>?_
 refine⟨aq.to i1l,?_⟩
 refine goA ab [9,10] 2 511 2047 U (aq.to i1l) (.assign rfl<|.assign rfl .nil) fun Y U =>?_
 refine wad ?_
 refine hK4 _ _ ?_
 refine rt2 U ?_
 have au:=aq.freezeN 22 rfl
 exact⟨d0++d1++d2,_,_,0,rfl,by simp at hld0 ⊢;omega,mE (mE hbd0 hbd1) hbd2,au.outF (i:=22) rfl,au.below⟩
end
section
theorem zZ:lR Tryz.prog 66 [.slice none 0 0,.int .i64 0]=true:=by kernel_rfl
theorem sw:lR Tryz.prog 125 [.int .i64 0,.int .i64 0,.int .i64 0,.int .i64 0,.int .i64 0,.slice none 0 0,.int .i64 0,.int .i64 0,.int .i64 0,.slice none 0 0]=true:=by kernel_rfl
theorem wV(X:Cx)(b:List Int)(p:Option Addr)(c:Nat)(w0:World)(hb:b.length≤1000000)(hbb:lg b)(m0:MemOk X w0 [(1,.dat (.slice p b.length c) (.ns .u8 b))] w0) :
   Calls Tryz.prog 108 #[.slice p b.length c] w0 fun e w' => ∃ (kd vo bl sz pe to at0 ix:Int) (place:List Int) (items:List (Int×List Int)) (pp:Option Addr) (cp:Nat) (pi:Option Addr) (ci:Nat) (er:Int),e=.returned (.tuple #[.agg #[.int .i64 kd,.int .i64 vo,.int .i64 bl,.int .i64 sz,.int .i64 pe,.slice pp place.length cp,.int .i64 to,.int .i64 at0,.int .i64 ix,.slice pi (items.map itD).length ci],.int .i64 er])∧place.length≤256∧items.length≤8∧(∀ e∈items,e.2.length≤32∧lg e.2)∧MemOk X w0 [(1,.dat (.slice pp place.length cp) (.ns .i64 place)),(2,.dat (.slice pi (items.map itD).length ci) (.l 2 (items.map itD)))] w':=by
 refine mp Tryz.func108 rfl Tryz.ntmps108 fun Y U =>?_
 refine zsr fun K0 hK0 =>?_
 refine plz (lc U m0 20 ox rfl fun g1 Y w2 U m2 _ _ =>?_)
 refine gz hK0 U (.assign rfl .nil) fun Y U =>?_
 refine zsr fun K1 hK1 =>?_
 refine k9 U (.move rfl<|.build rfl Ap zZ rfl (by dsimp only [l9,List.set] <;> rfl) .nil) fun Y U =>?_
 refine plz (ly U m2 21 (cs:=[_,_]) rfl rfl rfl fun g8 Y w9 U m9 _ _ =>?_)
 refine gz hK1 U (.assign rfl .nil) fun Y U =>?_
 refine zsr fun K2 hK2 =>?_
 refine plz (lc U m9 22 ox rfl fun bC Y bE U a4 _ _ =>?_)
 refine znl (hK2 _ _ ?_)
 refine zsr fun K3 hK3 =>?_
 refine k9 U (.move rfl .nil) fun Y U =>?_
 have az:=a4.dat 23 rfl (a4.rd (i:=1) rfl)
 refine plz (ecl U Tryz.func67 rfl (tV _ _ b _ 8 _ _ _ (by omega) hbb (by decide) (az.into [(1,21),(2,23)] (by decide) rfl)) ?_)
 rintro e bF ⟨kd,b1,bG,bH,a7,rfl,hukd,hlb1,hbb1,ag⟩
 have aA:=az.back ag [(21,1),(24,2)] (by decide);clear ag az
 have a8:=aA.oz [21,24,1,20,22]
 refine⟨_,rfl,?_⟩;intro Y U
 refine k9 U (.conv rfl nb U3 (IntWalk.i64_in _ (by omega))<|.fa 0 rfl lx .nil) fun Y U =>?_
 refine plz (st1 U a8 22 ma fun bI aB _ =>?_)
 refine znl (hK3 _ _ ?_)
 replace U:=U.oz [0,2,3,4,5]
 refine zsr fun K4 hK4 =>?_
 refine k9 U (.move rfl .nil) fun Y U =>?_
 refine plz (ecl U Tryz.func67 rfl (tV _ _ b1 _ 8 _ _ _ (by omega) hbb1 (by decide) (aB.into [(1,21),(2,24)] (by decide) rfl)) ?_)
 rintro e bJ ⟨vo,b2,bK,bL,a9,rfl,huvo,hlb2,hbb2,ah⟩
 have aC:=aB.back ah [(21,1),(25,2)] (by decide);clear ah aB
 have ba:=aC.oz [21,25,1,20,22]
 refine⟨_,rfl,?_⟩;intro Y U
 refine k9 U (.conv rfl nb U3 (IntWalk.i64_in _ (by omega))<|.fa 1 rfl lx .nil) fun Y U =>?_
 refine plz (st1 U ba 22 ma fun bM aD _ =>?_)
 refine znl (hK4 _ _ ?_)
 refine zsr fun K5 hK5 =>?_
 refine k9 U (.move rfl .nil) fun Y U =>?_
 refine plz (ecl U Tryz.func67 rfl (tV _ _ b2 _ 1099511627776 _ _ _ (by omega) hbb2 (by decide) (aD.into [(1,21),(2,25)] (by decide) rfl)) ?_)
 rintro e bN ⟨bl,b3,bO,bP,bb,rfl,hubl,hlb3,hbb3,ai⟩
 have aE:=aD.back ai [(21,1),(26,2)] (by decide);clear ai aD
 have bd:=aE.oz [21,26,1,20,22]
 refine⟨_,rfl,?_⟩;intro Y U
 refine k9 U (.conv rfl nb U3 (IntWalk.i64_in _ (by omega))<|.fa 2 rfl lx .nil) fun Y U =>?_
 refine plz (st1 U bd 22 ma fun bQ aF _ =>?_)
 refine znl (hK5 _ _ ?_)
 replace U:=U.oz [0,2,3,4,5]
 refine zsr fun K6 hK6 =>?_
 refine k9 U (.move rfl .nil) fun Y U =>?_
 refine plz (ecl U Tryz.func67 rfl (tV _ _ b3 _ 1099511627776 _ _ _ (by omega) hbb3 (by decide) (aF.into [(1,21),(2,26)] (by decide) rfl)) ?_)
 rintro e bR ⟨sz,b4,bS,bT,be,rfl,husz,hlb4,hbb4,aj⟩
 have aG:=aF.back aj [(21,1),(27,2)] (by decide);clear aj aF
 have bf:=aG.oz [21,27,1,20,22]
 refine⟨_,rfl,?_⟩;intro Y U
 refine k9 U (.conv rfl nb U3 (IntWalk.i64_in _ (by omega))<|.fa 3 rfl lx .nil) fun Y U =>?_
 refine plz (st1 U bf 22 ma fun bU aH _ =>?_)
 refine znl (hK6 _ _ ?_)
 refine zsr fun K7 hK7 =>?_
 refine k9 U (.move rfl .nil) fun Y U =>?_
 refine plz (ecl U Tryz.func67 rfl (tV _ _ b4 _ 1099511627776 _ _ _ (by omega) hbb4 (by decide) (aH.into [(1,21),(2,27)] (by decide) rfl)) ?_)
 rintro e bV ⟨pe,b5,bW,bX,bg,rfl,hupe,hlb5,hbb5,ak⟩
 have aI:=aH.back ak [(21,1),(28,2)] (by decide);clear ak aH
 have bh:=aI.oz [21,28,1,20,22]
 refine⟨_,rfl,?_⟩;intro Y U
 refine k9 U (.conv rfl nb U3 (IntWalk.i64_in _ (by omega))<|.fa 4 rfl lx .nil) fun Y U =>?_
 refine plz (st1 U bh 22 ma fun bY aJ _ =>?_)
 refine znl (hK7 _ _ ?_)
 replace U:=U.oz [0,2,3,4,5]
 refine zsr fun K8 hK8 =>?_
 refine k9 U (.move rfl .nil) fun Y U =>?_
 refine plz (ecl U Tryz.func67 rfl (tV _ _ b5 _ 1099511627776 _ _ _ (by omega) hbb5 (by decide) (aJ.into [(1,21),(2,28)] (by decide) rfl)) ?_)
 rintro e bZ ⟨to,b6,b0,ca,bi,rfl,huto,hlb6,hbb6,al⟩
 have aK:=aJ.back al [(21,1),(29,2)] (by decide);clear al aJ
 have bj:=aK.oz [21,29,1,20,22]
 refine⟨_,rfl,?_⟩;intro Y U
 refine k9 U (.conv rfl nb U3 (IntWalk.i64_in _ (by omega))<|.fa 6 rfl lx .nil) fun Y U =>?_
 refine plz (st1 U bj 22 ma fun cb aL _ =>?_)
 refine znl (hK8 _ _ ?_)
 refine zsr fun K9 hK9 =>?_
 refine k9 U (.move rfl .nil) fun Y U =>?_
 refine plz (ecl U Tryz.func67 rfl (tV _ _ b6 _ 1099511627776 _ _ _ (by omega) hbb6 (by decide) (aL.into [(1,21),(2,29)] (by decide) rfl)) ?_)
 rintro e cc ⟨at0,b7,cd,ce,bk,rfl,huat0,hlb7,hbb7,ao⟩
 have aM:=aL.back ao [(21,1),(30,2)] (by decide);clear ao aL
 have bm:=aM.oz [21,30,1,20,22]
 refine⟨_,rfl,?_⟩;intro Y U
 refine k9 U (.conv rfl nb U2 (IntWalk.i64_in _ (by omega))<|.fa 7 rfl lx .nil) fun Y U =>?_
 refine plz (st1 U bm 22 l3 fun cf aN _ =>?_)
 refine znl (hK9 _ _ ?_)
 replace U:=U.oz [0,2,3,4,5]
 refine zsr fun cg aO =>?_
 refine k9 U (.move rfl .nil) fun Y U =>?_
 refine plz (ecl U Tryz.func67 rfl (tV _ _ b7 _ 1099511627776 _ _ _ (by omega) hbb7 (by decide) (aN.into [(1,21),(2,30)] (by decide) rfl)) ?_)
 rintro e cj ⟨ix,b8,ck,cl,bn,rfl,huix,hlb8,hbb8,ap⟩
 have aP:=aN.back ap [(21,1),(31,2)] (by decide);clear ap aN
 have bo:=aP.oz [21,31,1,20,22]
 refine⟨_,rfl,?_⟩;intro Y U
 refine k9 U (.conv rfl nb U3 (IntWalk.i64_in _ (by omega))<|.fa 8 rfl lx .nil) fun Y U =>?_
 refine plz (st1 U bo 22 ma fun cm aQ _ =>?_)
 refine znl (aO _ _ ?_)
 refine zsr fun co aR =>?_
 refine k9 U (.move rfl .nil) fun Y U =>?_
 refine plz (ecl U Tryz.func120 rfl (tW _ _ b8 _ _ _ _ (by omega) hbb8 (aQ.into [(1,21),(2,31)] (by decide) rfl)) ?_)
 rintro e cq ⟨place,b9,cr,ct,bp,bq,br,rfl,hpl,hlb9,hbb9,aq⟩
 have aS:=aQ.back aq [(21,1),(32,2),(33,3)] (by decide);clear aq aQ
 have bs:=aS.oz [21,32,33,1,20,22]
 refine⟨_,rfl,?_⟩;intro Y U
 refine k9 U (.fieldAddr (off:=5) rfl lx rfl (s:=0) (by kernel_rfl) rfl .nil) fun Y U =>?_
 refine plz (st1 U bs 22 zo fun cu aT _ =>?_)
 refine znl (aR _ _ ?_)
 replace U:=U.oz [0,2,3,4,5]
 refine zsr fun cv aU =>?_
 refine k9 U (.move rfl .nil) fun Y U =>?_
 refine plz (ecl U Tryz.func68 rfl (tX _ _ b9 _ _ _ _ (by omega) hbb9 (aT.into [(1,21),(2,32)] (by decide) rfl)) ?_)
 rintro e cw ⟨items,cy,cz,cA,bt,bu,bv,rfl,hil,hii,a5,a6,ar⟩
 have aV:=aT.back ar [(21,1),(34,2),(35,3)] (by decide);clear ar aT
 have bw:=aV.oz [21,34,35,1,20,22,33]
 refine⟨_,rfl,?_⟩;intro Y U
 refine k9 U (.fieldAddr (off:=9) rfl lx rfl (s:=0) (by kernel_rfl) rfl .nil) fun Y U =>?_
 refine plz (st1 U bw 22 rK fun cB ay _ =>?_)
 refine znl (aU _ _ ?_)
 refine zsr fun cC aW =>?_
 refine k9 U (.loadBR ay (i:=22) rfl rfl lx rfl lY (by simp) (by dsimp only [List.drop,List.take] <;> rfl) .nil) fun Y U =>?_
 refine plz (ecl U Tryz.func73 rfl (vg _ _ _ _ _ _ _ _ place items _ _ _ _ _ _ ((ay.rd (i:=33) rfl).any) ((ay.rd (i:=35) rfl).any) (by omega) (by omega) (fun e he=>(hii e he).2)) ?_)
 rintro e cD ⟨ob,cE,cF,e9,rfl,hol,hob,aX,aY⟩
 have ad:=ay.callD 36 rfl aY (aX.cast (fun b hb=>Or.inr hb))
 refine⟨_,rfl,?_⟩;intro Y U
 refine gz aW U (.move rfl<|.extract rfl rfl<|.extract rfl rfl<|.assign rfl<|.assign rfl<|.nil) fun Y U =>?_
 refine wsk fun cG aZ =>?_
 replace U:=U.oz [0,2,3,4,5,6,7]
 refine zsr fun cH ae =>?_
 refine k9 U (.move rfl<|.nilCheck rfl<|.fa 1 rfl U66<|.lb ad 21 U3 rfl rfl rfl<|.neq rfl rfl<|.move rfl .nil) fun Y U =>?_
 refine bc U 59 ?_ ?_
 ·
  intro aa U;try simp only [QQ,Qax] at aa
  refine gz ae U (.sk<|.sk<|.pickT rfl rfl<|.move rfl<|.sk<|.sk<|.sk<|.sk<|.sk<|.pickT rfl rfl<|.nil) fun Y U =>?_
  refine wct U ?_
  replace U:=U.oz [2,3,5]
  refine zsr fun cI a0 =>?_
  refine k9 U (.build rfl ox sw rfl (by dsimp only [l9,List.set] <;> rfl) .nil) fun Y U =>?_
  refine plz (stw U ad 20 lY fun bx au _ =>?_)
  refine gz a0 U (.assign rfl .nil) fun Y U =>?_
  refine rtd (lL (fn:=Tryz.f108) U au (i:=20) rfl rfl rfl rfl lx rfl lY ?_)
  have mA:=au.dat 91 rfl (Rd.nilN _ _ .i64 none)
  have mB:=mA.dat 92 rfl (Rd.l0 none 0 2)
  exact⟨0,0,0,0,0,0,0,0,[],[],none,0,none,0,_,rfl,by simp,by simp,(fun e h=>by cases h),mB.ren [(1,91),(2,92)] (by decide)⟩
 intro aa U;try simp only [QQ,Qax] at aa
 refine k9 U (.moveZ rfl<|.neqZ rfl rfl<|.pickF rfl rfl<|.move rfl .nil) fun Y U =>?_
 refine bc U 63 ?_ ?_
 ·
  intro ab U;try simp only [QQ,Qax] at ab
  refine gz ae U (.sk<|.sk<|.sk<|.sk<|.sk<|.pickT rfl rfl<|.nil) fun Y U =>?_
  refine wct U ?_
  replace U:=U.oz [2,3,5]
  refine zsr fun cJ a1 =>?_
  refine k9 U (.build rfl ox sw rfl (by dsimp only [l9,List.set] <;> rfl) .nil) fun Y U =>?_
  refine plz (stw U ad 20 lY fun bz av _ =>?_)
  refine gz a1 U (.assign rfl .nil) fun Y U =>?_
  refine rtd (lL (fn:=Tryz.f108) U av (i:=20) rfl rfl rfl rfl lx rfl lY ?_)
  have mA:=av.dat 91 rfl (Rd.nilN _ _ .i64 none)
  have mB:=mA.dat 92 rfl (Rd.l0 none 0 2)
  exact⟨0,0,0,0,0,0,0,0,[],[],none,0,none,0,_,rfl,by simp,by simp,(fun e h=>by cases h),mB.ren [(1,91),(2,92)] (by decide)⟩
 intro ab U;try simp only [QQ,Qax] at ab
 refine gz ae U (.moveZ rfl<|.strZ rfl (ad.nums (i:=36) rfl) U22 U5 U9<|.moveZ rfl<|.strZ rfl (ad.nums (i:=1) rfl) U22 U5 U9<|.neqSZ rfl rfl<|.pickF rfl rfl<|.nil) fun Y U =>?_
 refine bc U 69 ?_ ?_
 ·
  intro ac U;try simp only [QQ,Qax] at ac
  refine wct U ?_
  replace U:=U.oz [2,3,5]
  refine zsr fun cK a2 =>?_
  refine k9 U (.build rfl ox sw rfl (by dsimp only [l9,List.set] <;> rfl) .nil) fun Y U =>?_
  refine plz (stw U ad 20 lY fun bA aw _ =>?_)
  refine gz a2 U (.assign rfl .nil) fun Y U =>?_
  refine rtd (lL (fn:=Tryz.f108) U aw (i:=20) rfl rfl rfl rfl lx rfl lY ?_)
  have mA:=aw.dat 91 rfl (Rd.nilN _ _ .i64 none)
  have mB:=mA.dat 92 rfl (Rd.l0 none 0 2)
  exact⟨0,0,0,0,0,0,0,0,[],[],none,0,none,0,_,rfl,by simp,by simp,(fun e h=>by cases h),mB.ren [(1,91),(2,92)] (by decide)⟩
 intro ac U;try simp only [QQ,Qax] at ac
 refine wcf U ?_
 refine zss (aZ _ _ ?_)
 replace U:=U.oz [2,3,5]
 refine zsr fun cL a3 =>?_
 refine k9 U (.loadBR ad (i:=22) rfl rfl lx rfl lY (by simp) (by dsimp only [List.drop,List.take] <;> rfl) .nil) fun Y U =>?_
 refine plz (stw U ad 20 lY fun bB ax _ =>?_)
 refine gz a3 U (.assign rfl .nil) fun Y U =>?_
 refine rtd (lL (fn:=Tryz.f108) U ax (i:=20) rfl rfl rfl rfl lx rfl lY ?_)
 exact⟨kd,vo,bl,sz,pe,to,at0,ix,place,items,_,_,_,_,_,rfl,hpl,hil,hii,ax.ren [(1,33),(2,35)] (by decide)⟩
end
section
section
variable {P:Program} {ops:Array Oper} {Q:Exit→Act→World→Prop} {md:Region.Mode} {listed:Array Bool} {fuel e:Nat} {S:World→Prop} {a:Act} {w:World}
theorem xU(i j k:Nat){oi oj ok:Oper}(hi:ops[i]? = some oi)(hj:ops[j]? = some oj)(hk:ops[k]? = some ok)(hr:Region.ready md ops listed=[i,j,k])
   (hwi:Region.wanted oi (Go.yielded ops a.tmps)=true) (hwj:Region.wanted oj (Go.yielded ops a.tmps)=true) (hwk:Region.wanted ok (Go.yielded ops a.tmps)=true)
   (h1:∀ K':Act→World→Prop,(∀ a' w',((listed.setIfInBounds i true).getD e false=false→S w')→lp P md ops Q e S fuel (listed.setIfInBounds i true) a' w'→K' a' w')→Oper.wp P oi a w K' Q)
   (h2:∀ K':Act→World→Prop,(∀ a' w',((listed.setIfInBounds j true).getD e false=false→S w')→lp P md ops Q e S fuel (listed.setIfInBounds j true) a' w'→K' a' w')→Oper.wp P oj a w K' Q)
   (h3:∀ K':Act→World→Prop,(∀ a' w',((listed.setIfInBounds k true).getD e false=false→S w')→lp P md ops Q e S fuel (listed.setIfInBounds k true) a' w'→K' a' w')→Oper.wp P ok a w K' Q) :
   lp P md ops Q e S (fuel+1) listed a w:=by
 refine⟨fun h0=>absurd (hr ▸ h0) (by simp),fun q hq =>?_⟩
 rw[hr] at hq
 rcases List.mem_cons.1 hq with rfl|hq
 · refine wpOp_step hi (fun K' hK =>?_)
   rw[if_pos hwi]
   exact h1 K' (fun a' w' h hn=>hK a' w' ⟨h,hn⟩)
 rcases List.mem_cons.1 hq with rfl|hq
 · refine wpOp_step hj (fun K' hK =>?_)
   rw[if_pos hwj]
   exact h2 K' (fun a' w' h hn=>hK a' w' ⟨h,hn⟩)
 obtain rfl:q=k:=by simpa using hq
 refine wpOp_step hk (fun K' hK =>?_)
 rw[if_pos hwk]
 exact h3 K' (fun a' w' h hn=>hK a' w' ⟨h,hn⟩)
end
section
variable {P:Program} {n:Nat} {T:List (Nat×Value)} {a:Act} {w w0:World} {X:Cx} {M:Mm} {tt:TypeId} {pos:String} {af:Array Edge} {gd:Option (Nat×Bool)} {Q:Exit→Act→World→Prop} {K:Act→World→Prop}
theorem qQ(ha:Has n T a)(m:MemOk X w0 M w)(i:Nat){g l c mm:Nat}{t e:TypeId}{x y:Operand}{rows:List (List D)}{xs:Array Value}{dd:List D}(hm:lk M i=some (.row (.slice (some ⟨g,0,none⟩) l c) e mm rows))(J:Nat)(hJ:J<rows.length){q':Nat}(hx:evT T x=some (.pointer (some ⟨g,q',none⟩)))(hq':q'=0+J*mm)(hy:evT T y=some (.agg xs))(hv:xs.toList.all (fun v=>v.oneCell')=true)(hl:xs.size=mm)(hs:(P.info? t).map (·.size)=some xs.size)(hdd:RdL (mP X M) w xs.toList dd)
   (h:∀ w',MemOk X w0 ((i,.row (.slice (some ⟨g,0,none⟩) l c) e mm (rows.set J dd)) :: M) w'→K a w'):Oper.wp P ⟨none,.store t x y,tt,pos,af,gd⟩ a w K Q:=by
 obtain⟨cs,h1,h2,h3,h4,h5⟩:=m.ok i _ hm
 subst hq'
 have hJc:cs[J]? = some cs[J]:=List.getElem?_eq_getElem (by omega)
 rcases h1.2 with ⟨e1,_⟩|⟨g',cap,cur,e1,hg',hbk,hnc,hcm,hcs,htk⟩
 · cases e1
 injection e1 with e1 e2 e3
 injection e1 with e1
 injection e1 with e1 e4
 subst e1;subst e2;subst e3
 obtain⟨o,ho⟩:∃ o:Nat,o=0:=⟨0,rfl⟩
 have htk:(cur.toList.drop o).take (rows.length*mm)=cs.flatten:=by rw[ho];simpa using htk
 have hJm:J*mm+mm≤rows.length*mm:=by
   calc J*mm+mm=(J+1)*mm:=by rw[Nat.add_mul];omega
     _≤rows.length*mm:=Nat.mul_le_mul_right _ (by omega)
 have hcapm:rows.length*mm≤c*mm:=Nat.mul_le_mul_right _ hnc
 have hb:Blk w g e cur.toList:=by unfold Blk;rw[Array.toArray_toList];exact hbk
 have hcl:cur.toList.length=cur.size:=Array.length_toList
 have hxl:xs.toList.length=mm:=by rw[Array.length_toList,hl]
 obtain⟨w',hrn,hb',hk⟩:=mF (P:=P) hb (o+J*mm) t xs.toList (by rw[hxl];omega) (by simpa using hs) (List.all_eq_true.1 hv)
 have hrun:(execOp a.eval ⟨none,.store t x y,tt,pos,af,gd⟩).run P w=.ok .skip w':=by
   have hr':(Instr.storeAt t (.pointer (some ⟨g,J*mm,none⟩)) (.agg xs)).run P w=.ok () w':=by rw[ho,Nat.zero_add] at hrn;simpa using hrn
   have hx':evT T x=some (.pointer (some ⟨g,J*mm,none⟩)):=by rw[hx,Nat.zero_add]
   simp [execOp,ha.ev hx',ha.ev hy,hr']
 show Oper.upon P _ a K Q _
 rw[hrun]
 rw[hxl] at hb'
 have hlen:(rows.set J dd).length=rows.length:=List.length_set ..
 have hdl:dd.length=mm:=by rw[← hdd.len,hxl]
 have hkeep:Keep (fun b => ∃ r,lk M i=some r∧r.blk=some b) w w':=(hk (fun b=>b=g) rfl).mono (fun b e=>⟨_,hm,by rw[show b=g from e];rfl⟩)
 refine h w' (m.upd i _ hkeep (fun b hb=>.inl ⟨_,hm,hb⟩) (fun hf _=>⟨cs.set J xs.toList,?_,by rw[List.length_set,h2,hlen],fun c' hc' =>?_,fun r' hr' =>?_,fun j q2 c' r' x' d a1 a2 a3 a4 =>?_⟩))
 · have hfl:cs.flatten.length=rows.length*mm:=h1.1
   rw[hlen,← po xs.toList hxl cs J (fun c hc=>(h3 c hc).1) (by omega)]
   refine⟨by simp only [List.length_append,List.length_take,List.length_drop,hxl,hfl];omega,.inr ⟨g,c,(cur.toList.take (o+J*mm)++xs.toList++cur.toList.drop (o+J*mm+mm)).toArray,rfl,hg',hb',hnc,hcm,?_,?_⟩⟩
   · simp only [List.size_toArray,List.length_append,List.length_take,List.length_drop,hxl,hcl];omega
   rw[← htk]
   show List.take (rows.length*mm) (cur.toList.take (o+J*mm)++xs.toList++cur.toList.drop (o+J*mm+mm))=_
   rw[show(cur.toList.take (o+J*mm)++xs.toList++cur.toList.drop (o+J*mm+mm))=(cur.toList.take (o+J*mm)++xs.toList++cur.toList.drop (o+J*mm+mm)).drop o by rw[ho,List.drop_zero]]
   generalize rows.length*mm=N at *
   generalize J*mm=j at *
   apply List.ext_getElem?
   intro k
   rw[List.getElem?_take]
   by_cases hkN:k<N
   · rw[if_pos hkN,List.getElem?_drop]
     by_cases k1:k<j
     · rw[List.getElem?_append_left (by simp;omega),List.getElem?_append_left (by simp;omega),List.getElem?_take_of_lt (by omega)]
       rw[List.getElem?_append_left (by simp;omega),List.getElem?_append_left (by simp;omega),List.getElem?_take_of_lt (by omega),List.getElem?_take_of_lt (by omega),List.getElem?_drop]
     by_cases k2:k<j+mm
     · rw[List.getElem?_append_left (by simp;omega),List.getElem?_append_right (by simp;omega)]
       rw[List.getElem?_append_left (by simp;omega),List.getElem?_append_right (by simp;omega)]
       congr 1;simp;omega
     rw[List.getElem?_append_right (by simp;omega),List.getElem?_append_right (by simp;omega)]
     simp only [List.getElem?_drop,List.length_append,List.length_take,List.length_drop,hxl,hcl]
     rw[List.getElem?_take_of_lt (by omega),List.getElem?_drop]
     congr 1;omega
   rw[if_neg hkN,List.getElem?_eq_none]
   simp only [List.length_append,List.length_take,List.length_drop,hxl,hcl]
   omega
 · rcases List.mem_or_eq_of_mem_set hc' with hc'|rfl
   · exact h3 c' hc'
   exact⟨hxl,List.all_eq_true.1 hv⟩
 · rcases List.mem_or_eq_of_mem_set hr' with hr'|rfl
   · exact h4 r' hr'
   exact hdl
 have hmono:∀ b,b<w.heap.size→mP X M b→w'.heap[b]? = w.heap[b]?∧mP X ((i,Res.row (.slice (some ⟨g,0,none⟩) rows.length c) e mm (rows.set J dd)) :: M) b:=fun b hlt hF=>⟨(hk (fun b=>b=g) rfl).2.2.2.2 b hlt (fun e=>hF.2 ⟨i,_,hm,by rw[show b=g from e];rfl⟩),hf b hlt hF⟩
 have hsz:=hkeep.size
 by_cases hjJ:j=J
 · subst hjJ
   rw[List.getElem?_set_self (by omega)] at a1
   rw[List.getElem?_set_self (by omega)] at a2
   cases a1;cases a2
   exact(hdd.get _ _ _ a3 a4).mono hsz hmono
 rw[List.getElem?_set_ne (by omega)] at a1
 rw[List.getElem?_set_ne (by omega)] at a2
 exact(h5 j q2 c' r' x' d a1 a2 a3 a4).mono hsz hmono
end
section
variable {w w0:World} {X:Cx} {M:Mm}
theorem MemOk.callF2(m:MemOk X w0 M w)(i j:Nat){w':World}{u v:Value}{d e:D}(hi:lk M i=none)(hj:lk ((i,.dat u d) :: M) j=none)(hb:Below w.heap.size w w')(h1:Rd (New w) w' u d)(h2:Rd (New w) w' v e):MemOk X w0 ((j,.dat v e) :: (i,.dat u d) :: M) w':=
 (m.callF i hi hb h1).dat j hj (h2.cast (fun b hb=>lf rfl (m.free_out (.inr hb))))
theorem MemOk.callF3(m:MemOk X w0 M w)(i j k:Nat){w':World}{u v t:Value}{d e f:D}(hi:lk M i=none)(hj:lk ((i,.dat u d) :: M) j=none)(hk:lk ((j,.dat v e) :: (i,.dat u d) :: M) k=none)(hb:Below w.heap.size w w')(h1:Rd (New w) w' u d)(h2:Rd (New w) w' v e)(h3:Rd (New w) w' t f):MemOk X w0 ((k,.dat t f) :: (j,.dat v e) :: (i,.dat u d) :: M) w':=
 (m.callF2 i j hi hj hb h1 h2).dat k hk (h3.cast (fun b hb=>lf rfl (lf rfl (m.free_out (.inr hb)))))
end
section
variable {P:Program} {ops:Array Oper} {Q:Exit→Act→World→Prop} {a:Act} {w:World} {md:Region.Mode} {e fuel:Nat} {S:World→Prop} {listed:Array Bool}
theorem dth(i j k:Nat){oi oj ok:Oper}(h1:Oper.wp P oi a w (fun a' w'=>((listed.setIfInBounds i true).getD e false=false→S w')∧lp P md ops Q e S fuel (listed.setIfInBounds i true) a' w') Q)(h2:Oper.wp P oj a w (fun a' w'=>((listed.setIfInBounds j true).getD e false=false→S w')∧lp P md ops Q e S fuel (listed.setIfInBounds j true) a' w') Q)(h3:Oper.wp P ok a w (fun a' w'=>((listed.setIfInBounds k true).getD e false=false→S w')∧lp P md ops Q e S fuel (listed.setIfInBounds k true) a' w') Q)(hi:ops[i]? = some oi:=by rfl)(hj:ops[j]? = some oj:=by rfl)(hk:ops[k]? = some ok:=by rfl)(hr:Region.ready md ops listed=[i,j,k]:=by kernel_rfl)(hwi:Region.wanted oi (Go.yielded ops a.tmps)=true:=by rfl)(hwj:Region.wanted oj (Go.yielded ops a.tmps)=true:=by rfl)(hwk:Region.wanted ok (Go.yielded ops a.tmps)=true:=by rfl):lp P md ops Q e S (fuel+1) listed a w:=
  xU i j k hi hj hk hr hwi hwj hwk (fun _ hK=>Oper.wp_mono (fun a' w' h=>hK a' w' h.1 h.2) h1) (fun _ hK=>Oper.wp_mono (fun a' w' h=>hK a' w' h.1 h.2) h2) (fun _ hK=>Oper.wp_mono (fun a' w' h=>hK a' w' h.1 h.2) h3)
end
end
end Go.Proofs.YteglmahnkfgelaaGreat.K
