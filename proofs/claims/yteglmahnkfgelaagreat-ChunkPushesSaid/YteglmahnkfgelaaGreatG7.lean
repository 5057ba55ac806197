/- General laws of walks. -/
import Derived.Test.YteglmahnkfgelaaGreatG6
import Derived.Test.YteglmahnkfgelaaGreatG4
namespace Go.Proofs.YteglmahnkfgelaaGreat.K
open Go.ChangeShapes Go.WideShapes Go.ChangeAt Go.RowKit
set_option linter.unusedVariables false
set_option linter.unusedSimpArgs false
set_option maxRecDepth 100000
set_option maxHeartbeats 4000000
set_option autoImplicit true
set_option relaxedAutoImplicit true
section
theorem sR:lR Tryz.prog 110 [.int .i64 0,.slice none 0 0]=true:=by kernel_rfl
def hD(h:List Ver):List D:=[.l 2 (h.map itD)]
theorem nX{S:Nat→Prop}{w:World}{p:Option Addr}{nn c mm:Nat}{α:Type}{f:α→List D}{es:List α}(h:Rd S w (.slice p nn c) (.l mm (es.map f))):nn=es.length:=by
 obtain⟨pq,cq,hv,_⟩:=h.l_shape
 injection hv with _ e2 _
 rw[List.length_map] at e2
 exact e2
theorem mS{A:List (List Ver)}{k:Nat}{h:List Ver}(e:A[k]? = some h):(A.map hD)[k]? = some [.l 2 (h.map itD)]:=by simp [e,hD]
def vr(H:List (List Ver)):Prop:=∀ h∈H,h.length≤1000000∧∀ v∈h,v.2.length≤1000000
def RPre(h:List Ver)(k:Nat):Prop:=∀ j,j<k→(1≤(h.getD j v0).1∧(h.getD j v0).1≤1099511627776)∧(0<j→(h.getD (j - 1) v0).1<(h.getD j v0).1)
theorem RPre.snoc{h:List Ver}{k:Nat}{xs:Int}{xd:List Int}(hp:RPre h k)(hes:h[k]? = some (xs,xd))(ht:1≤xs∧xs≤1099511627776)(hz:0<k→(h.getD (k - 1) v0).1<xs):RPre h (k+1):=fun j hj=>by
 rcases Nat.lt_or_ge j k with h1|h1
 · exact hp j h1
 obtain rfl:j=k:=by omega
 rw[show(h.getD j v0).1=xs by rw[List.getD,hes];rfl]
 exact⟨ht,hz⟩
theorem RPre.rise{h:List Ver}(hp:RPre h h.length):Rise h:=by
 unfold Rise
 rw[List.pairwise_iff_getElem]
 intro i j hi hj hij
 have step:∀ q,i+q<h.length→0<q→(h.getD i v0).1<(h.getD (i+q) v0).1:=by
   intro q
   induction q with
   | zero=>intro _ h0;omega
   | succ q ih =>
     intro hq _
     have h1:=(hp (i+(q+1)) hq).2 (by omega)
     rw[show i+(q+1) - 1=i+q by omega] at h1
     rcases Nat.eq_zero_or_pos q with h0|h0
     · subst h0;simpa using h1
     have:=ih (by omega) h0;omega
 have h1:=step (j - i) (by omega) (by omega)
 rw[show i+(j - i)=j by omega,List.getD,List.getD,List.getElem?_eq_getElem hi,List.getElem?_eq_getElem hj] at h1
 exact h1
section
variable {P:Program} {n:Nat} {T:List (Nat×Value)} {a:Act} {w:World} {d:Option Tmp} {tt:TypeId} {pos:String} {af:Array Edge} {gd:Option (Nat×Bool)}
theorem ra(h:Has n T a){t e:TypeId}{x y:Operand}{p:Option Addr}{l c l2:Nat}{k:IntKind}{q:Int}(j:Nat)(hx:evT T x=some (.slice p l c))(hy:evT T y=some (.int k q))(hu:P.underlying t=some (.slice e)){s:Nat}(hs:(P.info? e).map (·.size)=some s)(hq:q=j)(h1:j≤l)(hl:l - j=l2):Yl P a w ⟨d,.slice t x (some y) none none,tt,pos,af,gd⟩ (.slice (if c=j then p else p.map (·.add (j*s))) l2 (c - j)):=by
 subst hl
 exact lK h j hx hy hu hs hq h1
end
theorem qB:(Tryz.prog.info? 110).map (fun i=>(i.zero,i.size,i.bytes))=some (some (.agg #[.int .i64 0,.slice none 0 0]),2,32):=by kernel_rfl
theorem uz(n:Nat)(w:World)(hn:n≤100000000) :
   Calls Tryz.prog 122 #[.slice none 0 0,.int .i64 n] w fun e w' => ∃ p c,e=.returned (.slice p 0 c)∧w'.ownsRow w.heap.size 110 2 (.slice p 0 c) 0 []∧Below w.heap.size w w':=by
 by_cases h0:n=0
 · subst h0
   go_enter Tryz.func122,Tryz.ntmps122
   go_wp2
   go_ret
   exact⟨_,_,rfl,World.ownsRow_nil _ _ _ _,Below.refl _ _⟩
 obtain⟨i0,hi,hz0,hz1,hz2⟩:=info_parts qB
 have hbn:n*i0.bytes≤140737488355328:=by rw[hz2];omega
 obtain⟨z,hz⟩:∃ z:Value,(.agg #[.int .i64 0,.slice none 0 0])=z:=⟨_,rfl⟩
 have hzc:z.cells.size=2:=by rw[← hz];rfl
 rw[hz] at hz0
 have hrz:∀ ty,(Builtin.append_ #[94,3] ty #[.slice none 0 0,.int .i64 (n:Int)]).run Tryz.prog w =
     .ok (.slice (some ⟨w.heap.size,0,none⟩) n (grownCap w n 0 110)) (w.drew.alloc (.cells (#[]++Builtin.zeroCells z.cells n++Builtin.zeroCells z.cells (grownCap w n 0 110 - n)) 110)):=fun ty=>by
   have h:=Lib.run_append_grow_zeros w 94 3 ty 110 i0 z .i64 .i64 U94 U3 hi hz0 none 0 0 [] (run_firstCells_none w.drew i0.size 0 0 0) n (by omega) (by omega) (by omega) (by omega) (by omega)
     (by rw[Nat.zero_add];exact growslice_fits (by omega) hbn)
   rw[Nat.zero_add] at h
   exact h
 have hG:=grownCap_ge w n 0 110
 have hM:=grownCap_le_maxLen w n 0 110 (by unfold maxLen;omega)
 generalize grownCap w n 0 110=G at hrz hG hM
 have hown:(w.drew.alloc (.cells (#[]++Builtin.zeroCells z.cells n++Builtin.zeroCells z.cells (G - n)) 110)).ownsRow w.heap.size 110 2 (.slice (some ⟨w.heap.size,0,none⟩) 0 G) 0 []:=by
   refine World.ownsRow_made w.drew _ G (Nat.le_refl _) hM ?_
   simp [size_zeroCells,hzc]
   omega
 have hbel:Below w.heap.size w (w.drew.alloc (.cells (#[]++Builtin.zeroCells z.cells n++Builtin.zeroCells z.cells (G - n)) 110)):=((Below.refl _ w).drew).alloc (Nat.le_refl _) _
 generalize (w.drew.alloc (.cells (#[]++Builtin.zeroCells z.cells n++Builtin.zeroCells z.cells (G - n)) 110))=W' at hrz hown hbel
 have HO:=Lib.hid hown
 have HB:=Lib.hid hbel
 clear hown hbel hi hz0 hz1 hz2 hz hzc
 unfold maxLen at hM
 go_enter Tryz.func122,Tryz.ntmps122
 go_wp2_with (at_builtin;refine Lib.wpList_append_run _ rfl _ _ _ _ rfl _ _ rfl rfl _ _ (hrz _) ?_)
 all_goals (go_ret;exact⟨_,_,rfl,HO.out,HB.out⟩)
theorem qC:(Tryz.prog.info? 94).map (fun i=>(i.zero,i.size,i.bytes))=some (some (.slice none 0 0),1,24):=by kernel_rfl
theorem uA(n:Nat)(w:World)(hn:n≤100000000) :
   Calls Tryz.prog 113 #[.slice none 0 0,.int .i64 n] w fun e w' => ∃ p c,e=.returned (.slice p 0 c)∧w'.ownsRow w.heap.size 94 1 (.slice p 0 c) 0 []∧Below w.heap.size w w':=by
 by_cases h0:n=0
 · subst h0
   go_enter Tryz.func113,Tryz.ntmps113
   go_wp2
   go_ret
   exact⟨_,_,rfl,World.ownsRow_nil _ _ _ _,Below.refl _ _⟩
 obtain⟨i0,hi,hz0,hz1,hz2⟩:=info_parts qC
 have hbn:n*i0.bytes≤140737488355328:=by rw[hz2];omega
 obtain⟨z,hz⟩:∃ z:Value,(.slice none 0 0)=z:=⟨_,rfl⟩
 have hzc:z.cells.size=1:=by rw[← hz];rfl
 rw[hz] at hz0
 have hrz:∀ ty,(Builtin.append_ #[37,3] ty #[.slice none 0 0,.int .i64 (n:Int)]).run Tryz.prog w =
     .ok (.slice (some ⟨w.heap.size,0,none⟩) n (grownCap w n 0 94)) (w.drew.alloc (.cells (#[]++Builtin.zeroCells z.cells n++Builtin.zeroCells z.cells (grownCap w n 0 94 - n)) 94)):=fun ty=>by
   have h:=Lib.run_append_grow_zeros w 37 3 ty 94 i0 z .i64 .i64 U37 U3 hi hz0 none 0 0 [] (run_firstCells_none w.drew i0.size 0 0 0) n (by omega) (by omega) (by omega) (by omega) (by omega)
     (by rw[Nat.zero_add];exact growslice_fits (by omega) hbn)
   rw[Nat.zero_add] at h
   exact h
 have hG:=grownCap_ge w n 0 94
 have hM:=grownCap_le_maxLen w n 0 94 (by unfold maxLen;omega)
 generalize grownCap w n 0 94=G at hrz hG hM
 have hown:(w.drew.alloc (.cells (#[]++Builtin.zeroCells z.cells n++Builtin.zeroCells z.cells (G - n)) 94)).ownsRow w.heap.size 94 1 (.slice (some ⟨w.heap.size,0,none⟩) 0 G) 0 []:=by
   refine World.ownsRow_made w.drew _ G (Nat.le_refl _) hM ?_
   simp [size_zeroCells,hzc]
   omega
 have hbel:Below w.heap.size w (w.drew.alloc (.cells (#[]++Builtin.zeroCells z.cells n++Builtin.zeroCells z.cells (G - n)) 94)):=((Below.refl _ w).drew).alloc (Nat.le_refl _) _
 generalize (w.drew.alloc (.cells (#[]++Builtin.zeroCells z.cells n++Builtin.zeroCells z.cells (G - n)) 94))=W' at hrz hown hbel
 have HO:=Lib.hid hown
 have HB:=Lib.hid hbel
 clear hown hbel hi hz0 hz1 hz2 hz hzc
 unfold maxLen at hM
 go_enter Tryz.func113,Tryz.ntmps113
 go_wp2_with (at_builtin;refine Lib.wpList_append_run _ rfl _ _ _ _ rfl _ _ rfl rfl _ _ (hrz _) ?_)
 all_goals (go_ret;exact⟨_,_,rfl,HO.out,HB.out⟩)
theorem vU(X:Cx)(h:List Ver)(p:Option Addr)(nn c:Nat)(w0:World)(hl:h.length≤1000000)(m0:MemOk X w0 [(1,.dat (.slice p nn c) (.l 2 (h.map itD)))] w0) :
   Calls Tryz.prog 99 #[.slice p nn c] w0 fun e w' => ∃ b:Bool,e=.returned (.bool b)∧(b=true↔RPre h h.length)∧MemOk X w0 [(1,.dat (.slice p nn c) (.l 2 (h.map itD)))] w':=by
 obtain rfl:nn=h.length:=nX (m0.rd (i:=1) rfl)
 refine mp Tryz.func99 rfl Tryz.ntmps99 fun Y U =>?_
 refine la U (.assign rfl .nil) fun Y U =>?_
 refine wsk fun K0 hK0 =>?_
 refine la U (.move rfl<|.len rfl U94<|.move rfl .nil) fun Y U =>?_
 refine wp_block ?_
 refine wp_loop_ghost (fun g a w => ∃ (k:Nat),k≤h.length∧g=h.length - k∧RPre h k∧Has 32 [(0,.slice p h.length c),(5,.slice p h.length c),(6,.int .i64 h.length),(7,.int .i64 k)] a∧MemOk X w0 [(1,.dat (.slice p h.length c) (.l 2 (h.map itD)))] w) (h.length) ?_ ?_
 · exact⟨0,Nat.zero_le _,rfl,fun j hj=>by omega,U.only [0,5,6,7],m0.only [1]⟩
 clear U m0
 rintro g Y w5 ⟨k,hkl,hg,hp,U,m5⟩
 refine la U (.lss rfl rfl .nil) fun Y U =>?_
 refine wsk fun K1 hK1 =>?_
 refine bc U 8 ?_ ?_
 ·
  intro hb7 U;try simp only [QQ,Qax] at hb7
  have hk:k<h.length:=by have:=hb7;first|omega|(simp at this;omega)
  obtain⟨⟨xs,xd⟩,hes⟩:∃ e,h[k]? = some e:=⟨_,List.getElem?_eq_getElem hk⟩
  obtain⟨⟨zs,zd⟩,hes2⟩:∃ e,h[k - 1]? = some e:=⟨_,List.getElem?_eq_getElem (by omega)⟩
  have hz9:(h.getD (k - 1) v0).1=zs:=by rw[List.getD,hes2];rfl
  have hx9:(h.getD k v0).1=xs:=by rw[List.getD,hes];rfl
  refine wct U ?_
  refine zss (hK1 _ _ ?_)
  refine wsk fun K2 hK2 =>?_
  refine wp_block ?_
  refine zsr fun K3 hK3 =>?_
  refine k9 U (.move rfl .nil) fun Y U =>?_
  obtain⟨aI,aJ,aC,ak,al,ao,ax⟩:=m5.openR (i:=1) rfl (k) (r:=[.v (.int .i64 xs),.ns .u8 xd]) (lm hes) 100 rfl
  revert U
  cases ak;clear m5 ao
  rcases al with _|⟨ad,_|⟨aa,_|_⟩⟩
  obtain rfl:=ad.v_out
  clear ad
  obtain⟨aK,aL,ap,aD⟩:=aa.ns_shape;subst ap
  intro U
  have ay:=ax.dat 101 rfl (aa.cast (fun _ h=>(lf rfl h)));clear ax aa
  refine k9 U (.c rfl (fun _ h_=>li h_ rfl rfl U94 lN (k) rfl hk)<|.loadCR ay (i:=100) rfl rfl nf rfl lN .nil) fun Y U =>?_
  refine plz (lc U ay 102 oc rfl fun aM Y aN U aE _ _ =>?_)
  refine k9 U (.assign rfl .nil) fun Y U =>?_
  refine plz (stw U aE 102 lN fun aO az _ =>?_)
  refine znl (hK3 _ _ ?_)
  refine wsk fun K4 hK4 =>?_
  obtain⟨aP,aQ,aF,aq,ar,au,aA⟩:=az.openR (i:=1) rfl (k - 1) (r:=[.v (.int .i64 zs),.ns .u8 zd]) (lm hes2) 103 rfl
  revert U
  cases aq;clear az au
  rcases ar with _|⟨ae,_|⟨ab,_|_⟩⟩
  obtain rfl:=ae.v_out
  clear ae
  obtain⟨aR,aS,av,aG⟩:=ab.ns_shape;subst av
  intro U
  have aH:=aA.dat 104 rfl (ab.cast (fun _ h=>(lf rfl h)));clear aA ab
  have aw:=aH.oz [1,100,101,102,103,104]
  refine region_p 19 (B:=[(1,_),(100,_),(101,_),(102,_),(103,_),(104,_)]) (aw.to i6l) aw (by kernel_rfl) (fun aT ac aB =>?_);clear aw
  refine goR ac [0,1] [1] 2 0 3 U (aB.to i6l) (.fa 0 rfl nf<|.lb hh 102 U2 rfl rfl rfl .nil) fun Y U =>?_
  refine so 2 ?_
  refine ecb U Tryz.func94 rfl aB (uu _ _) fun Y aU U aj =>?_
  refine⟨aj.to i6l,?_⟩
  refine goA ac [3,4] 2 7 31 U (aj.to i6l) (.not rfl<|.move rfl .nil) fun Y U =>?_
  refine bc U 16 ?_ ?_
  ·
   intro ag U;try simp only [QQ,Qax] at ag
   have htn:¬ (1≤xs∧xs≤1099511627776):=by have:=ag;first|omega|(simp at this;omega)
   refine goA ac [5,6,7,8,9,10,11,12,13,14,15,16,17,18] 14 31 524287 U (aj.to i6l) (.s<|.s<|.s<|.u<|.u<|.u<|.u<|.u<|.u<|.u<|.u<|.u<|.s<|.pickT rfl rfl .nil) fun Y U =>?_
   refine wad ?_
   refine hK4 _ _ ?_
   refine wct U ?_
   replace U:=U.oz [0,5,6,7,8,16,30]
   refine la U (.assign rfl .nil) fun Y U =>?_
   refine rt1 U ?_
   exact⟨_,rfl,iff_of_false (by simp) (fun h9=>htn (by have:=(h9 k hk).1;rwa [hx9] at this)),aj.only [1]⟩
  intro ag U;try simp only [QQ,Qax] at ag
  have htm:1≤xs∧xs≤1099511627776:=by have:=ag;first|omega|(simp at this;omega)
  refine goA ac [5,6,7] 3 31 255 U (aj.to i6l) (.move rfl<|.gtr rfl rfl<|.move rfl .nil) fun Y U =>?_
  refine bc U 19 ?_ ?_
  ·
   intro ah U;try simp only [QQ,Qax] at ah
   have hk0:0<k:=by have:=ah;first|omega|(simp at this;omega)
   refine goR ac [8,9,10,11,12,13,14,15,16,17,18] [9,15] 11 255 524287 U (aj.to i6l) (.fa 0 rfl nf<|.lb hh 102 U2 rfl rfl rfl<|.move rfl<|.move rfl<|.sub rfl rfl (r:=((k - 1:Nat):Int)) (by rw[IntWalk.i64_in _ (by omega)];omega)<|.p (fun _ _ h_=>li h_ rfl rfl U94 lN (k - 1) rfl (by omega))<|.fieldAddrQ 0 rfl nf rfl (s:=0) (by kernel_rfl) rfl<|.loadC0 hh (i:=103) rfl rfl U2 rfl<|.leq rfl rfl<|.pickT rfl rfl<|.pickF rfl rfl .nil) fun Y U =>?_
   refine wad ?_
   refine hK4 _ _ ?_
   refine bc U 30 ?_ ?_
   ·
    intro ai U;try simp only [QQ,Qax] at ai
    have hbad:xs≤zs:=by have:=ai;first|omega|(simp at this;omega)
    refine wct U ?_
    replace U:=U.oz [0,5,6,7,8,16,30]
    refine la U (.assign rfl .nil) fun Y U =>?_
    refine rt1 U ?_
    exact⟨_,rfl,iff_of_false (by simp) (fun h9=>by have:=(h9 k hk).2 hk0;omega),aj.only [1]⟩
   intro ai U;try simp only [QQ,Qax] at ai
   have hez:0<k→(h.getD (k - 1) v0).1<xs:=by have:=ai;intro h9;first|omega|(simp at this;omega)
   refine wcf U ?_
   refine zss (hK2 _ _ ?_)
   replace U:=U.oz [0,5,6,7,8,16,30]
   refine wp_region_lit ?_
   refine k9 U (.inc (k+1)<|.move rfl .nil) fun Y U =>?_
   refine wpList_nil ?_
   show ∃ n',n'<_∧_
   exact⟨h.length - (k+1),by omega,k+1,by omega,rfl,RPre.snoc hp hes htm (fun h9=>by have:=hez h9;omega),U.only [0,5,6,7],aj.only [1]⟩
  intro ah U;try simp only [QQ,Qax] at ah
  have hez:0<k→(h.getD (k - 1) v0).1<xs:=by have:=ah;intro h9;first|omega|(simp at this;omega)
  refine goA ac [8,9,10,11,12,13,14,15,16,17,18] 11 255 524287 U (aj.to i6l) (.s<|.s<|.s<|.s<|.s<|.s<|.s<|.s<|.s<|.pickF rfl rfl<|.pickF rfl rfl .nil) fun Y U =>?_
  refine wad ?_
  refine hK4 _ _ ?_
  refine wcf U ?_
  refine zss (hK2 _ _ ?_)
  replace U:=U.oz [0,5,6,7,8,16,30]
  refine wp_region_lit ?_
  refine k9 U (.inc (k+1)<|.move rfl .nil) fun Y U =>?_
  refine wpList_nil ?_
  show ∃ n',n'<_∧_
  exact⟨h.length - (k+1),by omega,k+1,by omega,rfl,RPre.snoc hp hes htm (fun h9=>by have:=hez h9;omega),U.only [0,5,6,7],aj.only [1]⟩
 intro hb7 U;try simp only [QQ,Qax] at hb7
 revert U
 obtain rfl:k=h.length:=by have:=hb7;first|omega|(simp at this;omega)
 intro U
 refine wcf U ?_
 refine wp_exit ?_
 refine hK0 _ _ ?_
 refine la U (.assign rfl .nil) fun Y U =>?_
 refine rt1 U ?_
 exact⟨_,rfl,iff_of_true rfl hp,m5.only [1]⟩
theorem sS(X:Cx)(h:List Ver)(f:Int)(p:Option Addr)(nn c:Nat)(w0:World)(hl:h.length≤1000000)(hok:∀ v∈h,v.2.length≤1000000)(hr:Rise h)(m0:MemOk X w0 [(1,.dat (.slice p nn c) (.l 2 (h.map itD)))] w0) :
   Calls Tryz.prog 54 #[.slice p nn c,.int .i64 f] w0 fun e w' => ∃ (p9:Option Addr) (c9:Nat),e=.returned (.slice p9 (lr h f).length c9)∧MemOk X w0 [(1,.dat (.slice p nn c) (.l 2 (h.map itD))),(9,.dat (.slice p9 (lr h f).length c9) (.l 2 ((lr h f).map itD)))] w':=by
 obtain rfl:nn=h.length:=nX (m0.rd (i:=1) rfl)
 refine mR Tryz.func54 rfl Tryz.ntmps54 fun Y U =>?_
 have hul:=rb h f
 have hl9:h.length - (upN h f - 1)=(h.drop (upN h f - 1)).length:=by rw[List.length_drop]
 refine la U (.assign rfl .nil) fun Y U =>?_
 refine zsr fun K0 hK0 =>?_
 refine k9 U (.move rfl<|.move rfl<|.move rfl .nil) fun Y U =>?_
 refine plz (ecl U Tryz.func95 rfl (xv _ h f _ _ _ hl hr (m0.into [(1,1)] (by decide) rfl)) ?_)
 rintro e w8 ⟨rfl,hm8⟩
 have mx8:=m0.back hm8 [(1,1)] (by decide);clear hm8 m0
 have m8:=mx8.oz [1]
 refine⟨_,rfl,?_⟩;intro Y U
 refine k9 U (.sub rfl rfl (r:=(upN h f:Int) - 1) (IntWalk.i64_in _ (by omega))<|.c rfl (fun _ h_=>oK h_ rfl rfl (r:=((upN h f - 1:Nat):Int)) (by omega)) .nil) fun Y U =>?_
 have ab:=m8.dropR (i:=1) rfl (upN h f - 1) (by rw[List.length_map];omega) 20 rfl
 rw[← List.map_drop,hl9] at ab
 refine k9 U (.c rfl (fun _ h_=>ra h_ (upN h f - 1) rfl rfl U94 lN rfl (by omega) hl9) .nil) fun Y U =>?_
 refine plz (ecl U Tryz.func93 rfl (qZ _ (h.drop (upN h f - 1)) _ _ _ (by rw[List.length_drop];omega) (fun v hv=>hok v (List.mem_of_mem_drop hv)) (ab.into [(1,20)] (by decide) rfl)) ?_)
 rintro e ag ⟨ah,ai,rfl,aa⟩
 have ac:=ab.back aa [(20,1),(21,9)] (by decide);clear aa ab
 have ae:=ac.oz [20,21,1]
 refine⟨_,rfl,?_⟩;intro Y U
 refine gz hK0 U (.assign rfl .nil) fun Y U =>?_
 refine rt1 U ?_
 have ad:=ae.freezeR 21 rfl
 rw[List.length_map] at ad
 rw[List.length_map]
 exact⟨_,_,rfl,ad.ren [(1,1),(9,21)] (by decide)⟩
theorem zx(X:Cx)(h:List Ver)(s9:Int)(d:List Int)(p pd:Option Addr)(nn c cd:Nat)(w0:World)(hl:h.length≤1000000)(hok:∀ v∈h,v.2.length≤1000000)(hd:d.length≤1000000)(m0:MemOk X w0 [(1,.dat (.slice p nn c) (.l 2 (h.map itD))),(2,.dat (.slice pd d.length cd) (.ns .u8 d))] w0) :
   Calls Tryz.prog 53 #[.slice p nn c,.int .i64 s9,.slice pd d.length cd] w0 fun e w' => ∃ (p9:Option Addr) (c9:Nat),e=.returned (.slice p9 (mN h s9 d).length c9)∧MemOk X w0 [(1,.dat (.slice p nn c) (.l 2 (h.map itD))),(2,.dat (.slice pd d.length cd) (.ns .u8 d)),(9,.dat (.slice p9 (mN h s9 d).length c9) (.l 2 ((mN h s9 d).map itD)))] w':=by
 obtain rfl:nn=h.length:=nX (m0.rd (i:=1) rfl)
 refine qr Tryz.func53 rfl Tryz.ntmps53 fun Y U =>?_
 refine la U (.assign rfl .nil) fun Y U =>?_
 refine zsr fun K0 hK0 =>?_
 refine k9 U (.move rfl .nil) fun Y U =>?_
 refine plz (ecl U Tryz.func93 rfl (qZ _ h _ _ _ hl hok (m0.into [(1,1)] (by decide) rfl)) ?_)
 rintro e w4 ⟨p4,c4,rfl,hm4⟩
 have mx4:=m0.back hm4 [(1,1),(20,9)] (by decide);clear hm4 m0
 have m4:=mx4.oz [1,20,2]
 refine⟨_,rfl,?_⟩;intro Y U
 refine gz hK0 U (.assign rfl .nil) fun Y U =>?_
 refine wsk fun K1 hK1 =>?_
 refine zsr fun K2 hK2 =>?_
 refine k9 U (.move rfl .nil) fun Y U =>?_
 refine plz (ecb U Tryz.func94 rfl m4 (uu _ _) fun Y w9 U ah =>?_)
 refine k9 U (.not rfl<|.move rfl .nil) fun Y U =>?_
 refine bc U 13 ?_ ?_
 ·
  intro ab U;try simp only [QQ,Qax] at ab
  have htn:¬ (1≤s9∧s9≤1099511627776):=by have:=ab;first|omega|(simp at this;omega)
  refine k9 U (.sk<|.sk<|.sk<|.sk .nil) fun Y U =>?_
  refine lw U rfl rfl rfl rfl fun Y U =>?_
  refine lw U rfl rfl rfl rfl fun Y U =>?_
  refine lw U rfl rfl rfl rfl fun Y U =>?_
  refine lw U rfl rfl rfl rfl fun Y U =>?_
  refine lw U rfl rfl rfl rfl fun Y U =>?_
  refine lw U rfl rfl rfl rfl fun Y U =>?_
  refine lw U rfl rfl rfl rfl fun Y U =>?_
  refine lw U rfl rfl rfl rfl fun Y U =>?_
  refine lw U rfl rfl rfl rfl fun Y U =>?_
  refine gz hK2 U (.sk<|.pickT rfl rfl<|.nil) fun Y U =>?_
  refine wct U ?_
  replace U:=U.oz [1,2,6,7,13,17,28]
  refine la U (.move rfl<|.assign rfl .nil) fun Y U =>?_
  refine rt1 U ?_
  have au:=ah.freezeR 20 rfl
  have hAd:mN h s9 d=h:=by unfold mN;rw[if_neg (fun h9=>htn h9.1)]
  rw[List.length_map] at au
  rw[List.length_map,hAd]
  exact⟨_,_,rfl,au.ren [(1,1),(2,2),(9,20)] (by decide)⟩
 intro ab U;try simp only [QQ,Qax] at ab
 have htm:1≤s9∧s9≤1099511627776:=by have:=ab;first|omega|(simp at this;omega)
 refine k9 U (.moveZ rfl<|.lenZ rfl U94<|.gtrZ rfl rfl<|.moveZ rfl .nil) fun Y U =>?_
 refine bc U 17 ?_ ?_
 ·
  intro ac U;try simp only [QQ,Qax] at ac
  have hl0:0<h.length:=by have:=ac;first|omega|(simp at this;omega)
  obtain⟨⟨xs,xd⟩,hes⟩:∃ e,h[h.length - 1]? = some e:=⟨_,List.getElem?_eq_getElem (by omega)⟩
  have hx9:(h.getD (h.length - 1) v0).1=xs:=by rw[List.getD,hes];rfl
  refine k9 U (.moveZ rfl<|.moveZ rfl<|.moveZ rfl<|.lenZ rfl U94<|.subZ rfl rfl (r:=((h.length - 1:Nat):Int)) (by rw[IntWalk.i64_in _ (by omega)];omega) .nil) fun Y U =>?_
  obtain⟨aI,aJ,aA,ak,al,ao,av⟩:=ah.openR (i:=1) rfl (h.length - 1) (r:=[.v (.int .i64 xs),.ns .u8 xd]) (lm hes) 21 rfl
  revert U
  cases ak;clear ah ao
  rcases al with _|⟨ad,_|⟨aa,_|_⟩⟩
  obtain rfl:=ad.v_out
  clear ad
  obtain⟨aK,aL,ap,aB⟩:=aa.ns_shape;subst ap
  intro U
  have aj:=av.dat 22 rfl (aa.cast (fun _ h=>(lf rfl h)));clear av aa
  refine gz hK2 U (.g rfl rfl rfl rfl (fun _ h_=>li h_ rfl rfl U94 lN (h.length - 1) rfl (by omega))<|.fieldAddrQZ 0 rfl nf rfl (s:=0) (by kernel_rfl) rfl<|.loadC0Z aj (i:=21) rfl rfl U2 rfl<|.leqZ rfl rfl<|.pickTZ rfl rfl<|.pickF rfl rfl<|.nil) fun Y U =>?_
  refine bc U 28 ?_ ?_
  ·
   intro ae U;try simp only [QQ,Qax] at ae
   have hbad:s9≤xs:=by have:=ae;first|omega|(simp at this;omega)
   refine wct U ?_
   replace U:=U.oz [1,2,6,7,13,17,28]
   refine la U (.move rfl<|.assign rfl .nil) fun Y U =>?_
   refine rt1 U ?_
   have aw:=aj.freezeR 20 rfl
   have hAd:mN h s9 d=h:=by unfold mN;rw[if_neg (fun h9=>h9.2.elim (fun e=>by rw[e] at hl0;simp at hl0) (fun h8=>by omega))]
   rw[List.length_map] at aw
   rw[List.length_map,hAd]
   exact⟨_,_,rfl,aw.ren [(1,1),(2,2),(9,20)] (by decide)⟩
  intro ae U;try simp only [QQ,Qax] at ae
  have hgood:xs<s9:=by have:=ae;first|omega|(simp at this;omega)
  refine wcf U ?_
  refine zss (hK1 _ _ ?_)
  replace U:=U.oz [1,2,6,7,13,17,28]
  refine zsr fun K3 hK3 =>?_
  refine k9 U (.move rfl<|.move rfl<|.move rfl .nil) fun Y U =>?_
  refine plz (nC U aj 23 rfl rfl (aj.nums (i:=2) rfl) U22 lJ (by decide) (by omega) rfl fun aM aN Y aO U aC =>?_)
  refine k9 U (.build rfl oc sR rfl (by dsimp only [l9,List.set] <;> rfl) .nil) fun Y U =>?_
  have ax:=aC.freezeN 23 rfl
  refine plz (lq U ax 24 (mm:=2) rfl (.cons rfl rfl (.cons (.v _) (.cons (ax.rd (i:=23) rfl) .nil)) .nil) U94 mX rfl rfl rfl rfl rfl fun aP Y aQ U aD =>?_)
  have ay:=aD.freezeR 24 rfl
  refine plz (lC U ay 20 rfl rfl rfl (ay.rd (i:=24) rfl) U94 mX rfl rfl (by decide) (by simp;omega) rfl fun aR aS Y aT U aE =>?_)
  refine gz hK3 U (.assign rfl .nil) fun Y U =>?_
  refine rt1 U ?_
  have aq:=aE.freezeR 20 rfl
  have hAd:mN h s9 d=h++[(s9,d)]:=by unfold mN;rw[if_pos ⟨htm,.inr (by omega)⟩]
  have hE:h.map itD++[[D.v (.int .i64 s9),.ns .u8 d]]=(h++[(s9,d)]).map itD:=by rw[List.map_append];rfl
  rw[hE] at aq
  rw[hE]
  rw[List.length_map] at aq
  rw[List.length_map,hAd]
  exact⟨_,_,rfl,aq.ren [(1,1),(2,2),(9,20)] (by decide)⟩
 intro ac U;try simp only [QQ,Qax] at ac
 have hnil:h=[]:=List.length_eq_zero_iff.1 (by have:=ac;first|omega|(simp at this;omega)|(simp at this;simp [this]))
 refine gz hK2 U (.sk<|.sk<|.sk<|.sk<|.sk<|.sk<|.sk<|.sk<|.sk<|.pickFZ rfl rfl<|.pickF rfl rfl<|.nil) fun Y U =>?_
 refine wcf U ?_
 refine zss (hK1 _ _ ?_)
 replace U:=U.oz [1,2,6,7,13,17,28]
 refine zsr fun K4 hK4 =>?_
 refine k9 U (.move rfl<|.move rfl<|.move rfl .nil) fun Y U =>?_
 refine plz (nC U ah 21 rfl rfl (ah.nums (i:=2) rfl) U22 lJ (by decide) (by omega) rfl fun aU aV Y aW U aF =>?_)
 refine k9 U (.build rfl oc sR rfl (by dsimp only [l9,List.set] <;> rfl) .nil) fun Y U =>?_
 have az:=aF.freezeN 21 rfl
 refine plz (lq U az 22 (mm:=2) rfl (.cons rfl rfl (.cons (.v _) (.cons (az.rd (i:=21) rfl) .nil)) .nil) U94 mX rfl rfl rfl rfl rfl fun aX Y aY U aG =>?_)
 have ai:=aG.freezeR 22 rfl
 refine plz (lC U ai 20 rfl rfl rfl (ai.rd (i:=22) rfl) U94 mX rfl rfl (by decide) (by simp;omega) rfl fun aZ a0 Y aH U ar =>?_)
 refine gz hK4 U (.assign rfl .nil) fun Y U =>?_
 refine rt1 U ?_
 have ag:=ar.freezeR 20 rfl
 have hAd:mN h s9 d=h++[(s9,d)]:=by unfold mN;rw[if_pos ⟨htm,.inl hnil⟩]
 have hE:h.map itD++[[D.v (.int .i64 s9),.ns .u8 d]]=(h++[(s9,d)]).map itD:=by rw[List.map_append];rfl
 rw[hE] at ag
 rw[hE]
 rw[List.length_map] at ag
 rw[List.length_map,hAd]
 exact⟨_,_,rfl,ag.ren [(1,1),(2,2),(9,20)] (by decide)⟩
theorem zy(X:Cx)(h:List Ver)(t:Int)(p:Option Addr)(nn c:Nat)(w0:World)(hl:h.length≤1000000)(hok:∀ v∈h,v.2.length≤1000000)(hr:Rise h)(m0:MemOk X w0 [(1,.dat (.slice p nn c) (.l 2 (h.map itD)))] w0) :
   Calls Tryz.prog 79 #[.slice p nn c,.int .i64 t] w0 fun e w'=>(atF h t=none∧e=.returned (.tuple #[.slice none 0 0,.bool false])∧MemOk X w0 [(1,.dat (.slice p nn c) (.l 2 (h.map itD)))] w')∨∃ (d:List Int) (p9:Option Addr) (c9:Nat),atF h t=some d∧e=.returned (.tuple #[.slice p9 d.length c9,.bool true])∧MemOk X w0 [(1,.dat (.slice p nn c) (.l 2 (h.map itD))),(9,.dat (.slice p9 d.length c9) (.ns .u8 d))] w':=by
 obtain rfl:nn=h.length:=nX (m0.rd (i:=1) rfl)
 refine mR Tryz.func79 rfl Tryz.ntmps79 fun Y U =>?_
 have hul:=rb h t
 refine la U (.assign rfl<|.assign rfl .nil) fun Y U =>?_
 refine zsr fun K0 hK0 =>?_
 refine k9 U (.move rfl<|.move rfl .nil) fun Y U =>?_
 refine plz (ecl U Tryz.func95 rfl (xv _ h t _ _ _ hl hr (m0.into [(1,1)] (by decide) rfl)) ?_)
 rintro e w7 ⟨rfl,hm7⟩
 have mx7:=m0.back hm7 [(1,1)] (by decide);clear hm7 m0
 have m7:=mx7.oz [1]
 refine⟨_,rfl,?_⟩;intro Y U
 refine gz hK0 U (.assign rfl .nil) fun Y U =>?_
 refine wsk fun K1 hK1 =>?_
 refine la U (.move rfl<|.eql rfl rfl .nil) fun Y U =>?_
 refine bc U 11 ?_ ?_
 ·
  intro ab U;try simp only [QQ,Qax] at ab
  have hz:upN h t=0:=by have:=ab;first|omega|(simp at this;omega)
  refine wct U ?_
  refine la U (.assign rfl<|.assign rfl .nil) fun Y U =>?_
  refine rt2 U ?_
  exact .inl ⟨by unfold atF;rw[if_pos hz],rfl,m7.only [1]⟩
 intro ab U;try simp only [QQ,Qax] at ab
 have hz:¬ upN h t=0:=by have:=ab;first|omega|(simp at this;omega)
 obtain⟨⟨xs,xd⟩,hes⟩:∃ e,h[upN h t - 1]? = some e:=⟨_,List.getElem?_eq_getElem (by omega)⟩
 have hxd:xd.length≤1000000:=hok _ (List.mem_of_getElem? hes)
 have hx9:(h.getD (upN h t - 1) v0).2=xd:=by rw[List.getD,hes];rfl
 refine wcf U ?_
 refine zss (hK1 _ _ ?_)
 refine zsr fun K2 hK2 =>?_
 refine k9 U (.move rfl<|.move rfl<|.sub rfl rfl (r:=((upN h t - 1:Nat):Int)) (by rw[IntWalk.i64_in _ (by omega)];omega) .nil) fun Y U =>?_
 obtain⟨aq,ar,ak,ad,ae,ag,aj⟩:=m7.openR (i:=1) rfl (upN h t - 1) (r:=[.v (.int .i64 xs),.ns .u8 xd]) (lm hes) 20 rfl
 revert U
 cases ad;clear m7 ag
 rcases ae with _|⟨ac,_|⟨aa,_|_⟩⟩
 obtain rfl:=ac.v_out
 clear ac
 obtain⟨au,av,ah,al⟩:=aa.ns_shape;subst ah
 intro U
 have ai:=aj.dat 21 rfl (aa.cast (fun _ h=>(lf rfl h)));clear aj aa
 refine k9 U (.c rfl (fun _ h_=>li h_ rfl rfl U94 lN (upN h t - 1) rfl (by omega))<|.fieldAddrQ 1 rfl nf rfl (s:=0) (by kernel_rfl) rfl<|.loadC1 ai (i:=20) (q:=1) rfl rfl rfl U22 rfl .nil) fun Y U =>?_
 refine plz (nC U ai 22 rfl rfl (ai.nums (i:=21) rfl) U22 lJ (by decide) (by omega) rfl fun aw ax Y ay U ao =>?_)
 refine gz hK2 U (.assign rfl<|.assign rfl<|.nil) fun Y U =>?_
 refine rt2 U ?_
 have ap:=ao.freezeN 22 rfl
 exact .inr ⟨xd,_,_,by unfold atF;rw[if_neg hz,hx9],rfl,ap.ren [(1,1),(9,22)] (by decide)⟩
theorem Aw(X:Cx)(s9:Int)(d:List Int)(p:Option Addr)(c:Nat)(w0:World)(hd:d.length≤140737488351232)(m0:MemOk X w0 [(1,.dat (.slice p d.length c) (.ns .u8 d))] w0) :
   Calls Tryz.prog 115 #[.agg #[.int .i64 s9,.slice p d.length c]] w0 fun e w' => ∃ (p9:Option Addr) (c9:Nat),e=.returned (.agg #[.int .i64 s9,.slice p9 d.length c9])∧MemOk X w0 [(1,.dat (.slice p d.length c) (.ns .u8 d)),(9,.dat (.slice p9 d.length c9) (.ns .u8 d))] w':=by
 refine mp Tryz.func115 rfl Tryz.ntmps115 fun Y U =>?_
 refine zsr fun K0 hK0 =>?_
 refine plz (ly U m0 20 (cs:=[_,_]) rfl rfl rfl fun g1 Y w2 U m2 _ _ =>?_)
 refine plz (lc U m2 21 oc rfl fun g3 Y w4 U m4 _ _ =>?_)
 refine znl (hK0 _ _ ?_)
 refine zsr fun K1 hK1 =>?_
 refine k9 U (.fa 1 rfl nf<|.lb m4 20 U22 rfl rfl rfl .nil) fun Y U =>?_
 refine plz (ecl U Tryz.func123 rfl (tE d _ _ _ (m4.rd (i:=1) rfl).any hd) ?_)
 rintro e w9 ⟨p9,c9,rfl,hd9,hb9⟩
 have ac:=m4.callF 22 rfl hb9 hd9
 refine⟨_,rfl,?_⟩;intro Y U
 refine k9 U (.fieldAddr (off:=1) rfl nf rfl (s:=0) (by kernel_rfl) rfl .nil) fun Y U =>?_
 refine plz (st1 U ac 20 oN fun ad aa _ =>?_)
 refine znl (hK1 _ _ ?_)
 refine zsr fun K2 hK2 =>?_
 refine k9 U (.loadBR aa (i:=20) rfl rfl nf rfl lN (by simp) (by dsimp only [List.drop,List.take] <;> rfl) .nil) fun Y U =>?_
 refine plz (stw U aa 21 lN fun ae ab _ =>?_)
 refine znl (hK2 _ _ ?_)
 refine rtd (mK (fn:=Tryz.f115) U ab (i:=21) rfl rfl rfl nf rfl lN ?_)
 exact⟨_,_,rfl,ab.ren [(1,1),(9,22)] (by decide)⟩
theorem yr(X:Cx)(es:List Ver)(p0:Option Addr)(c0:Nat)(w0:World)(hl:es.length≤1000000)(hok:∀ v∈es,v.2.length≤1000000)(m0:MemOk X w0 [(1,.dat (.slice p0 es.length c0) (.l 2 (es.map itD)))] w0) :
   Calls Tryz.prog 114 #[.slice p0 es.length c0,.func (.func 115) #[] #[]] w0 fun e w' => ∃ (p9:Option Addr) (c9:Nat),e=.returned (.slice p9 (es.map itD).length c9)∧MemOk X w0 [(1,.dat (.slice p0 es.length c0) (.l 2 (es.map itD))),(9,.row (.slice p9 (es.map itD).length c9) 110 2 (es.map itD))] w':=by
 refine mR Tryz.func114 rfl Tryz.ntmps114 fun Y U =>?_
 refine la U (.assign rfl .nil) fun Y U =>?_
 refine zsr fun K0 hK0 =>?_
 refine k9 U (.move rfl<|.len rfl U94 .nil) fun Y U =>?_
 refine plz (ecl U Tryz.func122 rfl (uz _ _ (by omega)) ?_)
 rintro e w6 ⟨p6,c6,rfl,ho6,hb6⟩
 have m7:=m0.newR 20 hb6 (xy ho6)
 refine⟨_,rfl,?_⟩;intro Y U
 refine gz hK0 U (.assign rfl .nil) fun Y U =>?_
 refine wsk fun K1 hK1 =>?_
 refine la U (.move rfl<|.len rfl U94<|.move rfl .nil) fun Y U =>?_
 refine wp_block ?_
 refine wp_loop_ghost (fun g a w => ∃ (k:Nat) (p:Option Addr) (c:Nat),k≤es.length∧g=es.length - k∧Has 25 [(1,.func (.func 115) #[] #[]),(5,.slice p ((es.take k).map itD).length c),(11,.slice p0 es.length c0),(12,.int .i64 es.length),(13,.int .i64 k)] a∧MemOk X w0 [(1,.dat (.slice p0 es.length c0) (.l 2 (es.map itD))),(9,.row (.slice p ((es.take k).map itD).length c) 110 2 ((es.take k).map itD))] w) (es.length) ?_ ?_
 · exact⟨0,_,_,Nat.zero_le _,rfl,U.only [1,5,11,12,13],m7.ren [(1,1),(9,20)] (by decide)⟩
 clear U m7
 rintro g Y az ⟨k,p,c,hkl,hg,U,ae⟩
 refine la U (.lss rfl rfl .nil) fun Y U =>?_
 refine wsk fun K2 hK2 =>?_
 refine bc U 14 ?_ ?_
 ·
  intro ab U;try simp only [QQ,Qax] at ab
  have hk:k<es.length:=by have:=ab;first|omega|(simp at this;omega)
  obtain⟨⟨xs,xd⟩,hes⟩:∃ e,es[k]? = some e:=⟨_,List.getElem?_eq_getElem hk⟩
  have hed:=hok _ (List.mem_of_getElem? hes)
  dsimp only at hed
  refine wct U ?_
  refine zss (hK2 _ _ ?_)
  refine wsk fun K3 hK3 =>?_
  refine wp_block ?_
  refine zsr fun K4 hK4 =>?_
  obtain⟨aA,aB,av,ah,ai,aj,ao⟩:=ae.openR (i:=1) rfl (k) (r:=[.v (.int .i64 xs),.ns .u8 xd]) (lm hes) 100 rfl
  revert U
  cases ah;clear ae aj
  rcases ai with _|⟨ac,_|⟨aa,_|_⟩⟩
  obtain rfl:=ac.v_out
  clear ac
  obtain⟨aC,aD,ak,aw⟩:=aa.ns_shape;subst ak
  intro U
  have ap:=ao.dat 101 rfl (aa.cast (fun _ h=>(lf rfl h)));clear ao aa
  refine k9 U (.c rfl (fun _ h_=>li h_ rfl rfl U94 lN (k) rfl hk)<|.loadCR ap (i:=100) rfl rfl nf rfl lN .nil) fun Y U =>?_
  refine plz (lc U ap 102 oc rfl fun aE Y aF U ax _ _ =>?_)
  refine plz (stw U ax 102 lN fun aG ag _ =>?_)
  refine znl (hK4 _ _ ?_)
  refine wp_region_lit ?_
  refine k9 U (.move rfl<|.move rfl<|.loadBR ag (i:=102) rfl rfl nf rfl lN (by simp) (by dsimp only [List.drop,List.take] <;> rfl) .nil) fun Y U =>?_
  refine plz (rE U rfl Tryz.func115 rfl rfl rfl rfl (Aw _ xs xd _ _ _ (by omega) (ag.into [(1,101)] (by decide) rfl)) ?_)
  rintro e aH ⟨aI,aJ,rfl,ad⟩
  have al:=ag.back ad [(101,1),(103,9)] (by decide);clear ad ag
  have aq:=al.oz [101,103,1,9,100,102]
  refine⟨_,rfl,?_⟩;intro Y U
  refine plz (lq U aq 104 (mm:=2) rfl (.cons rfl rfl (.cons (.v _) (.cons (aq.rd (i:=103) rfl) .nil)) .nil) U94 mX rfl rfl rfl rfl rfl fun aK Y aL U ay =>?_)
  have ar:=ay.freezeR 104 rfl
  refine plz (lC U ar 9 rfl rfl rfl (ar.rd (i:=104) rfl) U94 mX rfl rfl (by decide) (by simp;omega) rfl fun aM aN Y aO U au =>?_)
  refine gz hK3 U (.assign rfl .nil) fun Y U =>?_
  replace U:=U.oz [1,5,11,12,13]
  refine wp_region_lit ?_
  refine k9 U (.inc (k+1)<|.move rfl .nil) fun Y U =>?_
  refine wpList_nil ?_
  show ∃ n',n'<_∧_
  have hE:((es.take k).map itD)++[[D.v (.int .i64 xs),.ns .u8 xd]]=((es.take (k+1)).map itD):=by rw[ln hes,List.map_append];rfl
  rw[hE] at au U
  exact⟨es.length - (k+1),by omega,k+1,_,_,by omega,rfl,U.only [1,5,11,12,13],au.only [1,9]⟩
 intro ab U;try simp only [QQ,Qax] at ab
 revert U
 obtain rfl:k=es.length:=by have:=ab;first|omega|(simp at this;omega)
 intro U
 refine wcf U ?_
 refine wp_exit ?_
 refine hK1 _ _ ?_
 refine la U (.move rfl<|.assign rfl .nil) fun Y U =>?_
 refine rt1 U ?_
 rw[List.take_length] at ae
 rw[List.take_length]
 exact⟨_,_,rfl,ae.ren [(1,1),(9,9)] (by decide)⟩
theorem zA(X:Cx)(es:List Ver)(p0:Option Addr)(nn c0:Nat)(w0:World)(hl:es.length≤1000000)(hok:∀ v∈es,v.2.length≤1000000)(m0:MemOk X w0 [(1,.dat (.slice p0 nn c0) (.l 2 (es.map itD)))] w0) :
   Calls Tryz.prog 92 #[.slice p0 nn c0] w0 fun e w' => ∃ (p9:Option Addr) (c9:Nat),e=.returned (.slice p9 es.length c9)∧MemOk X w0 [(1,.dat (.slice p0 nn c0) (.l 2 (es.map itD))),(9,.dat (.slice p9 es.length c9) (.l 2 (es.map itD)))] w':=by
 obtain rfl:nn=es.length:=nX (m0.rd (i:=1) rfl)
 refine mp Tryz.func92 rfl Tryz.ntmps92 fun Y U =>?_
 refine la U (.assign rfl .nil) fun Y U =>?_
 refine zsr fun K0 hK0 =>?_
 refine k9 U (.move rfl .nil) fun Y U =>?_
 refine plz (ecl U Tryz.func114 rfl (yr _ es _ _ _ hl hok (m0.into [(1,1)] (by decide) rfl)) ?_)
 rintro e w4 ⟨p4,c4,rfl,hm4⟩
 have mx4:=m0.back hm4 [(1,1),(20,9)] (by decide);clear hm4 m0
 have m4:=mx4.oz [1,20]
 refine⟨_,rfl,?_⟩;intro Y U
 refine gz hK0 U (.assign rfl .nil) fun Y U =>?_
 refine rt1 U ?_
 have m7:=m4.freezeR 20 rfl
 rw[List.length_map] at m7
 rw[List.length_map]
 exact⟨_,_,rfl,m7.ren [(1,1),(9,20)] (by decide)⟩
theorem yt(X:Cx)(es:List (List Ver))(p0:Option Addr)(c0:Nat)(w0:World)(hl:es.length≤1000000)(hok:vr es)(m0:MemOk X w0 [(1,.dat (.slice p0 es.length c0) (.l 1 (es.map hD)))] w0) :
   Calls Tryz.prog 91 #[.slice p0 es.length c0,.func (.func 92) #[] #[]] w0 fun e w' => ∃ (p9:Option Addr) (c9:Nat),e=.returned (.slice p9 (es.map hD).length c9)∧MemOk X w0 [(1,.dat (.slice p0 es.length c0) (.l 1 (es.map hD))),(9,.row (.slice p9 (es.map hD).length c9) 94 1 (es.map hD))] w':=by
 refine mR Tryz.func91 rfl Tryz.ntmps91 fun Y U =>?_
 refine la U (.assign rfl .nil) fun Y U =>?_
 refine zsr fun K0 hK0 =>?_
 refine k9 U (.move rfl<|.len rfl U37 .nil) fun Y U =>?_
 refine plz (ecl U Tryz.func113 rfl (uA _ _ (by omega)) ?_)
 rintro e w6 ⟨p6,c6,rfl,ho6,hb6⟩
 have m7:=m0.newR 20 hb6 (xy ho6)
 refine⟨_,rfl,?_⟩;intro Y U
 refine gz hK0 U (.assign rfl .nil) fun Y U =>?_
 refine wsk fun K1 hK1 =>?_
 refine la U (.move rfl<|.len rfl U37<|.move rfl .nil) fun Y U =>?_
 refine wp_block ?_
 refine wp_loop_ghost (fun g a w => ∃ (k:Nat) (p:Option Addr) (c:Nat),k≤es.length∧g=es.length - k∧Has 25 [(1,.func (.func 92) #[] #[]),(5,.slice p ((es.take k).map hD).length c),(11,.slice p0 es.length c0),(12,.int .i64 es.length),(13,.int .i64 k)] a∧MemOk X w0 [(1,.dat (.slice p0 es.length c0) (.l 1 (es.map hD))),(9,.row (.slice p ((es.take k).map hD).length c) 94 1 ((es.take k).map hD))] w) (es.length) ?_ ?_
 · exact⟨0,_,_,Nat.zero_le _,rfl,U.only [1,5,11,12,13],m7.ren [(1,1),(9,20)] (by decide)⟩
 clear U m7
 rintro g Y aw ⟨k,p,c,hkl,hg,U,ad⟩
 refine la U (.lss rfl rfl .nil) fun Y U =>?_
 refine wsk fun K2 hK2 =>?_
 refine bc U 14 ?_ ?_
 ·
  intro ab U;try simp only [QQ,Qax] at ab
  have hk:k<es.length:=by have:=ab;first|omega|(simp at this;omega)
  obtain⟨e9,hes⟩:∃ e,es[k]? = some e:=⟨_,List.getElem?_eq_getElem hk⟩
  have hed:=hok _ (List.mem_of_getElem? hes)
  refine wct U ?_
  refine zss (hK2 _ _ ?_)
  refine wsk fun K3 hK3 =>?_
  refine wp_block ?_
  refine zsr fun K4 hK4 =>?_
  obtain⟨ax,ay,ar,ag,ah,ai,al⟩:=ad.openR (i:=1) rfl (k) (r:=[.l 2 (e9.map itD)]) (mS hes) 100 rfl
  revert U
  cases ag;clear ad ai
  rcases ah with _|⟨aa,_|_⟩
  obtain⟨az,aA,aj,au⟩:=aa.l_shape;subst aj
  intro U
  have ae:=al.dat 101 rfl (aa.cast (fun _ h=>(lf rfl h)));clear al aa
  refine gz hK4 U (.c rfl (fun _ h_=>li h_ rfl rfl U37 mJ (k) rfl hk)<|.loadC0 ae (i:=100) rfl rfl U94 rfl<|.assign rfl<|.nil) fun Y U =>?_
  refine wp_region_lit ?_
  refine k9 U (.move rfl<|.move rfl<|.move rfl .nil) fun Y U =>?_
  refine plz (rE U rfl Tryz.func92 rfl rfl rfl rfl (zA _ e9 _ _ _ _ hed.1 hed.2 (ae.into [(1,101)] (by decide) rfl)) ?_)
  rintro e aB ⟨aC,aD,rfl,ac⟩
  have ak:=ae.back ac [(101,1),(102,9)] (by decide);clear ac ae
  have ao:=ak.oz [101,102,1,9,100]
  refine⟨_,rfl,?_⟩;intro Y U
  refine plz (lq U ao 103 (mm:=1) rfl (.cons rfl rfl (.cons (ao.rd (i:=102) rfl) .nil) .nil) U37 ue rfl rfl rfl rfl rfl fun aE Y aF U av =>?_)
  have ap:=av.freezeR 103 rfl
  refine plz (lC U ap 9 rfl rfl rfl (ap.rd (i:=103) rfl) U37 ue rfl rfl (by decide) (by simp;omega) rfl fun aG aH Y aI U aq =>?_)
  refine gz hK3 U (.assign rfl .nil) fun Y U =>?_
  replace U:=U.oz [1,5,11,12,13]
  refine wp_region_lit ?_
  refine k9 U (.inc (k+1)<|.move rfl .nil) fun Y U =>?_
  refine wpList_nil ?_
  show ∃ n',n'<_∧_
  have hE:((es.take k).map hD)++[[D.l 2 (e9.map itD)]]=((es.take (k+1)).map hD):=by rw[ln hes,List.map_append];rfl
  rw[hE] at aq U
  exact⟨es.length - (k+1),by omega,k+1,_,_,by omega,rfl,U.only [1,5,11,12,13],aq.only [1,9]⟩
 intro ab U;try simp only [QQ,Qax] at ab
 revert U
 obtain rfl:k=es.length:=by have:=ab;first|omega|(simp at this;omega)
 intro U
 refine wcf U ?_
 refine wp_exit ?_
 refine hK1 _ _ ?_
 refine la U (.move rfl<|.assign rfl .nil) fun Y U =>?_
 refine rt1 U ?_
 rw[List.take_length] at ad
 rw[List.take_length]
 exact⟨_,_,rfl,ad.ren [(1,1),(9,9)] (by decide)⟩
theorem sJ(X:Cx)(vo ch cn sz mk fl:Int)(H:List (List Ver))(p:Option Addr)(c:Nat)(w0:World)(hl:H.length≤1000000)(hok:vr H)(m0:MemOk X w0 [(1,.dat (.slice p H.length c) (.l 1 (H.map hD)))] w0) :
   Calls Tryz.prog 51 #[.agg #[.int .i64 vo,.int .i64 ch,.int .i64 cn,.int .i64 sz,.int .i64 mk,.int .i64 fl,.slice p H.length c]] w0 fun e w' => ∃ (p9:Option Addr) (c9:Nat),e=.returned (.agg #[.int .i64 vo,.int .i64 ch,.int .i64 cn,.int .i64 sz,.int .i64 mk,.int .i64 fl,.slice p9 H.length c9])∧MemOk X w0 [(1,.dat (.slice p H.length c) (.l 1 (H.map hD))),(9,.row (.slice p9 H.length c9) 94 1 (H.map hD))] w':=by
 refine mp Tryz.func51 rfl Tryz.ntmps51 fun Y U =>?_
 refine zsr fun K0 hK0 =>?_
 refine plz (ly U m0 20 (cs:=[_,_,_,_,_,_,_]) rfl rfl rfl fun g1 Y w2 U m2 _ _ =>?_)
 refine plz (lc U m2 21 oV rfl fun g3 Y w4 U m4 _ _ =>?_)
 refine znl (hK0 _ _ ?_)
 refine zsr fun K1 hK1 =>?_
 refine k9 U (.fa 6 rfl U39<|.lb m4 20 U37 rfl rfl rfl .nil) fun Y U =>?_
 refine plz (ecl U Tryz.func91 rfl (yt _ H _ _ _ hl hok (m4.into [(1,1)] (by decide) rfl)) ?_)
 rintro e w9 ⟨p9,c9,rfl,hm9⟩
 have mx9:=m4.back hm9 [(1,1),(22,9)] (by decide);clear hm9 m4
 have m9:=mx9.oz [1,22,20,21]
 refine⟨_,rfl,?_⟩;intro Y U
 refine k9 U (.fieldAddr (off:=6) rfl U39 rfl (s:=0) (by kernel_rfl) rfl .nil) fun Y U =>?_
 refine plz (st1 U m9 20 x8 fun ac ab _ =>?_)
 refine znl (hK1 _ _ ?_)
 refine zsr fun K2 hK2 =>?_
 refine k9 U (.loadBR ab (i:=20) rfl rfl U39 rfl lH (by simp) (by dsimp only [List.drop,List.take] <;> rfl) .nil) fun Y U =>?_
 refine plz (stw U ab 21 lH fun ad aa _ =>?_)
 refine znl (hK2 _ _ ?_)
 refine rtd (mK (fn:=Tryz.f51) U aa (i:=21) rfl rfl rfl U39 rfl lH ?_)
 rw[List.length_map] at aa
 rw[List.length_map]
 exact⟨_,_,rfl,aa.ren [(1,1),(9,22)] (by decide)⟩
end
section
abbrev i0:Int×List Int:=(0,[])
theorem sI{l:List (Int×List Int)}{k:Nat}{e:Int×List Int}(h:l[k]? = some e):l.getD k i0=e:=by rw[List.getD,h];rfl
theorem u9{l:List (Int×List Int)}{k:Nat}{xb yb:Int}{yd:List Int}(h:∀ j,j<k→(l.getD j i0).1≠xb)(hes:l[k]? = some (yb,yd))(hne:¬ yb=xb):∀ j,j<k+1→(l.getD j i0).1≠xb:=fun j hj=>by
 rcases Nat.lt_or_ge j k with h1|h1
 · exact h j h1
 obtain rfl:j=k:=by omega
 rw[sI hes];exact hne
def qJ(bl sz:Int)(l:List (Int×List Int))(k:Nat):Prop:=∀ j,j<k→0≤(l.getD j i0).1∧(l.getD j i0).1<bl∧((l.getD j i0).2.length:Int)=sz∧¬ ∃ e∈l.take j,e.1=(l.getD j i0).1
def mb(bl sz:Int)(l:List (Int×List Int)):Prop:=1≤l.length∧l.length≤8∧qJ bl sz l l.length
theorem qh{bl sz:Int}{l:List (Int×List Int)}{k:Nat}{yb:Int}{yd:List Int}(h:qJ bl sz l k)(hes:l[k]? = some (yb,yd))(hb:0≤yb∧yb<bl)(hs:(yd.length:Int)=sz)(hn:¬ ∃ e∈l.take k,e.1=yb):qJ bl sz l (k+1):=fun j hj=>by
 rcases Nat.lt_or_ge j k with h1|h1
 · exact h j h1
 obtain rfl:j=k:=by omega
 rw[sI hes];exact⟨hb.1,hb.2,hs,hn⟩
theorem wS(X:Cx)(B:Nat)(xb yb:Int)(px py:Option Addr)(nx cx ny cy:Nat)(w0:World)(m0:MemOk X w0 [(2,.box B 78 [.int .i64 xb,.slice px nx cx])] w0) :
   Calls Tryz.prog 90 #[.agg #[.int .i64 yb,.slice py ny cy],.pointer (some ⟨B,0,none⟩)] w0 fun e w'=>e=.returned (.bool (decide (yb=xb)))∧MemOk X w0 [(2,.box B 78 [.int .i64 xb,.slice px nx cx])] w':=by
 refine mR Tryz.func90 rfl Tryz.ntmps90 fun Y U =>?_
 refine zsr fun K0 hK0 =>?_
 refine plz (ly U m0 20 (cs:=[_,_]) rfl rfl rfl fun g1 Y w2 U m2 _ _ =>?_)
 refine gz hK0 U (.assign rfl .nil) fun Y U =>?_
 refine la U (.fa 0 rfl U78<|.lb m2 20 U3 rfl rfl rfl<|.fa 0 rfl U78<|.lb m2 2 U3 rfl rfl rfl<|.eql rfl rfl<|.assign rfl .nil) fun Y U =>?_
 refine rt1 U ?_
 exact⟨rfl,m2.only [2]⟩
theorem vh(X:Cx)(B:Nat)(l:List (Int×List Int))(xb:Int)(p px:Option Addr)(nn c nx cx:Nat)(w0:World)(hl:l.length≤1000000)(hnn:nn=l.length)(m0:MemOk X w0 [(1,.dat (.slice p nn c) (.l 2 (l.map itD))),(2,.box B 78 [.int .i64 xb,.slice px nx cx])] w0) :
   Calls Tryz.prog 112 #[.slice p nn c,.func (.func 90) #[] #[.pointer (some ⟨B,0,none⟩)]] w0 fun e w' => ∃ q:Int,e=.returned (.int .i64 q)∧(0≤q↔∃ e∈l,e.1=xb)∧MemOk X w0 [(1,.dat (.slice p nn c) (.l 2 (l.map itD))),(2,.box B 78 [.int .i64 xb,.slice px nx cx])] w':=by
 subst hnn
 refine mR Tryz.func112 rfl Tryz.ntmps112 fun Y U =>?_
 refine la U (.assign rfl .nil) fun Y U =>?_
 refine wsk fun K0 hK0 =>?_
 refine la U (.move rfl<|.len rfl U28<|.move rfl .nil) fun Y U =>?_
 refine wp_block ?_
 refine wp_loop_ghost (fun g a w => ∃ (k:Nat),k≤l.length∧g=l.length - k∧(∀ j,j<k→(l.getD j i0).1≠xb)∧Has 19 [(0,.slice p l.length c),(1,.func (.func 90) #[] #[.pointer (some ⟨B,0,none⟩)]),(7,.int .i64 l.length),(8,.int .i64 k)] a∧MemOk X w0 [(1,.dat (.slice p l.length c) (.l 2 (l.map itD))),(2,.box B 78 [.int .i64 xb,.slice px nx cx])] w) (l.length) ?_ ?_
 · exact⟨0,Nat.zero_le _,rfl,(fun j hj=>by omega),U.only [0,1,7,8],m0.only [1,2]⟩
 clear U m0
 rintro g Y w5 ⟨k,hkl,hg,hall,U,m5⟩
 refine la U (.lss rfl rfl .nil) fun Y U =>?_
 refine wsk fun K1 hK1 =>?_
 refine bc U 9 ?_ ?_
 ·
  intro hb7 U;try simp only [QQ,Qax] at hb7
  have hk:k<l.length:=by omega
  obtain⟨⟨yb,yd⟩,hes⟩:∃ e,l[k]? = some e:=⟨_,List.getElem?_eq_getElem hk⟩
  refine wct U ?_
  refine zss (hK1 _ _ ?_)
  refine wsk fun K2 hK2 =>?_
  refine wp_block ?_
  refine la U (.move rfl<|.assign rfl .nil) fun Y U =>?_
  refine zsr fun K3 hK3 =>?_
  refine k9 U (.move rfl<|.move rfl<|.move rfl .nil) fun Y U =>?_
  obtain⟨ar,au,ap,ag,ah,ai,al⟩:=m5.openR (i:=1) rfl (k) (r:=[.v (.int .i64 yb),.ns .u8 yd]) (lm hes) 100 rfl
  revert U
  cases ag;clear m5 ai
  rcases ah with _|⟨ab,_|⟨aa,_|_⟩⟩
  obtain rfl:=ab.v_out
  clear ab
  obtain⟨av,aw,aj,aq⟩:=aa.ns_shape;subst aj
  intro U
  have ae:=al.dat 101 rfl (aa.cast (fun _ h=>(lf rfl h)));clear al aa
  refine k9 U (.c rfl (fun _ h_=>li h_ rfl rfl U28 lX (k) rfl hk)<|.loadCR ae (i:=100) rfl rfl U78 rfl lX .nil) fun Y U =>?_
  refine plz (rF U rfl Tryz.func90 rfl rfl rfl rfl (wS _ _ _ _ _ _ _ _ _ _ _ (ae.into [(2,2)] (by decide) rfl)) ?_)
  rintro e ax ⟨rfl,ad⟩
  have ak:=ae.back ad [(2,2)] (by decide);clear ad ae
  have ao:=ak.oz [2,1,100,101]
  refine⟨_,rfl,?_⟩;intro Y U
  refine znl (hK3 _ _ ?_)
  refine bc U 16 ?_ ?_
  ·
   intro ac U;try simp only [QQ,Qax] at ac
   refine wct U ?_
   replace U:=U.oz [0,1,7,8,5,16]
   refine la U (.move rfl<|.assign rfl .nil) fun Y U =>?_
   refine rt1 U ?_
   exact⟨_,rfl,iff_of_true (by omega) ⟨_,List.mem_of_getElem? hes,ac⟩,ao.only [1,2]⟩
  intro ac U;try simp only [QQ,Qax] at ac
  refine wcf U ?_
  refine zss (hK2 _ _ ?_)
  replace U:=U.oz [0,1,7,8,16]
  refine wp_region_lit ?_
  refine k9 U (.inc (k+1)<|.move rfl .nil) fun Y U =>?_
  refine wpList_nil ?_
  show ∃ n',n'<_∧_
  exact⟨l.length - (k+1),by omega,k+1,by omega,rfl,u9 hall hes ac,U.only [0,1,7,8],ao.only [1,2]⟩
 intro hb7 U;try simp only [QQ,Qax] at hb7
 revert U
 obtain rfl:k=l.length:=by omega
 intro U
 refine wcf U ?_
 refine wp_exit ?_
 refine hK0 _ _ ?_
 refine la U (.assign rfl .nil) fun Y U =>?_
 refine rt1 U ?_
 exact⟨_,rfl,iff_of_false (by omega) (fun h=>by obtain⟨e9,h1,h2⟩:=h;obtain⟨j,hj,rfl⟩:=List.getElem_of_mem h1;have:=hall j hj;rw[List.getD,List.getElem?_eq_getElem hj] at this;exact this h2),m5.only [1,2]⟩
theorem wT(X:Cx)(B:Nat)(l:List (Int×List Int))(xb:Int)(p px:Option Addr)(nn c nx cx:Nat)(w0:World)(hl:l.length≤1000000)(hnn:nn=l.length)(m0:MemOk X w0 [(1,.dat (.slice p nn c) (.l 2 (l.map itD))),(2,.box B 78 [.int .i64 xb,.slice px nx cx])] w0) :
   Calls Tryz.prog 89 #[.slice p nn c,.func (.func 90) #[] #[.pointer (some ⟨B,0,none⟩)]] w0 fun e w' => ∃ b:Bool,e=.returned (.bool b)∧(b=true↔∃ e∈l,e.1=xb)∧MemOk X w0 [(1,.dat (.slice p nn c) (.l 2 (l.map itD))),(2,.box B 78 [.int .i64 xb,.slice px nx cx])] w':=by
 subst hnn
 refine mR Tryz.func89 rfl Tryz.ntmps89 fun Y U =>?_
 refine la U (.assign rfl .nil) fun Y U =>?_
 refine zsr fun K0 hK0 =>?_
 refine k9 U (.move rfl<|.move rfl .nil) fun Y U =>?_
 refine plz (ecl U Tryz.func112 rfl (vh _ _ l _ _ _ _ _ _ _ _ (by omega) rfl (m0.into [(1,1),(2,2)] (by decide) rfl)) ?_)
 rintro e w6 ⟨q,rfl,hq,hm6⟩
 have mx6:=m0.back hm6 [(1,1),(2,2)] (by decide);clear hm6 m0
 have m6:=mx6.oz [1,2]
 refine⟨_,rfl,?_⟩;intro Y U
 refine gz hK0 U (.geq rfl rfl<|.assign rfl<|.nil) fun Y U =>?_
 refine rt1 U ?_
 exact⟨_,rfl,by rw[decide_eq_true_eq];exact hq,m6.only [1,2]⟩
theorem tF(bl sz:Int)(l:List (Int×List Int))(p:Option Addr)(c:Nat)(w0:World)(h0:Rd (fun _=>True) w0 (.slice p l.length c) (.l 2 (l.map itD)))(hl:l.length≤1000000) :
   Calls Tryz.prog 47 #[.int .i64 bl,.int .i64 sz,.slice p l.length c] w0 fun e w' => ∃ b:Bool,e=.returned (.bool b)∧(b=true↔mb bl sz l)∧Below w0.heap.size w0 w':=by
 have hcap:l.length≤c:=by obtain⟨pq,cq,hv,hcap⟩:=h0.l_shape;injection hv with _ _ e3;rw[List.length_map] at hcap;omega
 refine qr Tryz.func47 rfl Tryz.ntmps47 fun Y U =>?_
 have m0:=(MemOk.start (fun _=>True) w0).dat 1 rfl (h0.cast (fun _ _=>qp (fun _=>trivial)))
 refine la U (.assign rfl .nil) fun Y U =>?_
 refine wsk fun K0 hK0 =>?_
 refine la U (.move rfl<|.len rfl U28<|.move rfl .nil) fun Y U =>?_
 refine wp_block ?_
 refine wp_loop_ghost (fun g a w => ∃ (k:Nat),k≤l.length∧g=l.length - k∧qJ bl sz l k∧Has 46 [(0,.int .i64 bl),(1,.int .i64 sz),(2,.slice p l.length c),(9,.slice p l.length c),(10,.int .i64 l.length),(11,.int .i64 k)] a∧MemOk (cx (fun _=>True) w0) w0 [(1,.dat (.slice p l.length c) (.l 2 (l.map itD)))] w) (l.length) ?_ ?_
 · exact⟨0,Nat.zero_le _,rfl,(fun j hj=>by omega),U.only [0,1,2,9,10,11],m0.only [1]⟩
 clear U m0
 rintro g Y w5 ⟨k,hkl,hg,hall,U,m5⟩
 refine la U (.lss rfl rfl .nil) fun Y U =>?_
 refine wsk fun K1 hK1 =>?_
 refine bc U 12 ?_ ?_
 ·
  intro hb7 U;try simp only [QQ,Qax] at hb7
  have hk:k<l.length:=by omega
  obtain⟨⟨yb,yd⟩,hes⟩:∃ e,l[k]? = some e:=⟨_,List.getElem?_eq_getElem hk⟩
  refine wct U ?_
  refine zss (hK1 _ _ ?_)
  refine wsk fun K2 hK2 =>?_
  refine wp_block ?_
  refine zsr fun K3 hK3 =>?_
  refine k9 U (.move rfl .nil) fun Y U =>?_
  obtain⟨aA,aB,ax,al,ao,ap,au⟩:=m5.openR (i:=1) rfl (k) (r:=[.v (.int .i64 yb),.ns .u8 yd]) (lm hes) 100 rfl
  revert U
  cases al;clear m5 ap
  rcases ao with _|⟨ab,_|⟨aa,_|_⟩⟩
  obtain rfl:=ab.v_out
  clear ab
  obtain⟨aC,aD,aq,ay⟩:=aa.ns_shape;subst aq
  intro U
  have av:=au.dat 101 rfl (aa.cast (fun _ h=>(lf rfl h)));clear au aa
  refine k9 U (.c rfl (fun _ h_=>li h_ rfl rfl U28 lX (k) rfl hk)<|.loadCR av (i:=100) rfl rfl U78 rfl lX .nil) fun Y U =>?_
  refine plz (lc U av 102 pz rfl fun aE Y aF U az _ _ =>?_)
  refine k9 U (.assign rfl .nil) fun Y U =>?_
  refine plz (stw U az 102 lX fun aG ac _ =>?_)
  refine znl (hK3 _ _ ?_)
  refine wsk fun K4 hK4 =>?_
  refine zsr fun K5 hK5 =>?_
  refine k9 U (.fa 0 rfl U78<|.lb ac 102 U3 rfl rfl rfl<|.lss rfl rfl<|.move rfl .nil) fun Y U =>?_
  refine bc U 19 ?_ ?_
  ·
   intro ad U;try simp only [QQ,Qax] at ad
   refine gz hK5 U (.sk<|.sk<|.sk<|.sk<|.pickT rfl rfl<|.move rfl<|.sk<|.sk<|.sk<|.sk<|.sk<|.pickT rfl rfl<|.nil) fun Y U =>?_
   refine wct U ?_
   replace U:=U.oz [0,1,2,9,10,11,12,8,7]
   refine la U (.assign rfl .nil) fun Y U =>?_
   refine rt1 U ?_
   exact⟨_,rfl,iff_of_false (by simp) (fun h=>by have h9:=h.2.2 k hk;rw[sI hes] at h9;dsimp only at h9;omega),ac.below⟩
  intro ad U;try simp only [QQ,Qax] at ad
  refine k9 U (.faZ 0 rfl U78<|.loadB1Z ac (i:=102) rfl rfl rfl U3 rfl<|.moveZ rfl<|.geqZ rfl rfl<|.pickF rfl rfl<|.move rfl .nil) fun Y U =>?_
  refine bc U 25 ?_ ?_
  ·
   intro ae U;try simp only [QQ,Qax] at ae
   refine gz hK5 U (.sk<|.sk<|.sk<|.sk<|.sk<|.pickT rfl rfl<|.nil) fun Y U =>?_
   refine wct U ?_
   replace U:=U.oz [0,1,2,9,10,11,12,8,7]
   refine la U (.assign rfl .nil) fun Y U =>?_
   refine rt1 U ?_
   exact⟨_,rfl,iff_of_false (by simp) (fun h=>by have h9:=h.2.2 k hk;rw[sI hes] at h9;dsimp only at h9;omega),ac.below⟩
  intro ae U;try simp only [QQ,Qax] at ae
  refine gz hK5 U (.faZ 1 rfl U78<|.loadB1Z ac (i:=102) rfl rfl rfl U22 rfl<|.lenZ rfl U22<|.moveZ rfl<|.neqZ rfl rfl<|.pickF rfl rfl<|.nil) fun Y U =>?_
  refine bc U 31 ?_ ?_
  ·
   intro ag U;try simp only [QQ,Qax] at ag
   refine wct U ?_
   replace U:=U.oz [0,1,2,9,10,11,12,8,7]
   refine la U (.assign rfl .nil) fun Y U =>?_
   refine rt1 U ?_
   exact⟨_,rfl,iff_of_false (by simp) (fun h=>by have h9:=h.2.2 k hk;rw[sI hes] at h9;dsimp only at h9;omega),ac.below⟩
  intro ag U;try simp only [QQ,Qax] at ag
  refine wcf U ?_
  refine zss (hK4 _ _ ?_)
  replace U:=U.oz [0,1,2,9,10,11,12,8,7]
  refine zsr fun K6 hK6 =>?_
  refine k9 U (.move rfl<|.move rfl<|.c rfl (fun _ h_=>mD h_ k rfl rfl U28 lX rfl (by omega))<|.makeFunc rfl .nil) fun Y U =>?_
  have ak:=ac.takeR (i:=1) rfl k (by rw[List.length_map];omega) 103 rfl
  rw[← List.map_take] at ak
  refine plz (ecl U Tryz.func89 rfl (wT _ _ (l.take k) _ _ _ _ _ _ _ _ (by rw[List.length_take];omega) (by rw[List.length_take];omega) (ak.into [(1,103),(2,102)] (by decide) rfl)) ?_)
  rintro e aH ⟨cb,rfl,hcb,aj⟩
  have ar:=ak.back aj [(103,1),(102,2)] (by decide);clear aj ak
  have aw:=ar.oz [103,102,1,100,101]
  refine⟨_,rfl,?_⟩;intro Y U
  refine znl (hK6 _ _ ?_)
  refine bc U 36 ?_ ?_
  ·
   intro ah U;try simp only [QQ,Qax] at ah
   refine wct U ?_
   replace U:=U.oz [0,1,2,9,10,11,12,36]
   refine la U (.assign rfl .nil) fun Y U =>?_
   refine rt1 U ?_
   exact⟨_,rfl,iff_of_false (by simp) (fun h=>(h.2.2 k hk).2.2.2 (by rw[sI hes];exact hcb.1 (by simp_all))),aw.below⟩
  intro ah U;try simp only [QQ,Qax] at ah
  refine wcf U ?_
  refine zss (hK2 _ _ ?_)
  replace U:=U.oz [0,1,2,9,10,11,12,36]
  refine wp_region_lit ?_
  refine k9 U (.inc (k+1)<|.move rfl .nil) fun Y U =>?_
  refine wpList_nil ?_
  show ∃ n',n'<_∧_
  exact⟨l.length - (k+1),by omega,k+1,by omega,rfl,qh hall hes (by omega) (by omega) (fun h=>by have h9:=hcb.2 h;simp_all),U.only [0,1,2,9,10,11],aw.only [1]⟩
 intro hb7 U;try simp only [QQ,Qax] at hb7
 revert U
 obtain rfl:k=l.length:=by omega
 intro U
 refine wcf U ?_
 refine wp_exit ?_
 refine hK0 _ _ ?_
 refine zsr fun K7 hK7 =>?_
 refine k9 U (.move rfl<|.len rfl U28<|.geq rfl rfl<|.move rfl .nil) fun Y U =>?_
 refine bc U 41 ?_ ?_
 ·
  intro ai U;try simp only [QQ,Qax] at ai
  refine gz hK7 U (.moveZ rfl<|.lenZ rfl U28<|.leqZ rfl rfl<|.pickT rfl rfl<|.assign rfl<|.nil) fun Y U =>?_
  refine rt1 U ?_
  exact⟨_,rfl,by unfold mb;first|(simp;intros;first|exact hall|omega)|(refine iff_of_false (by simp) (fun h =>?_);omega)|(rw[decide_eq_true_eq];exact⟨fun h=>⟨by omega,by omega,hall⟩,fun h=>by omega⟩),m5.below⟩
 intro ai U;try simp only [QQ,Qax] at ai
 refine gz hK7 U (.sk<|.sk<|.sk<|.pickF rfl rfl<|.assign rfl<|.nil) fun Y U =>?_
 refine rt1 U ?_
 exact⟨_,rfl,by unfold mb;first|(simp;intros;first|exact hall|omega)|(refine iff_of_false (by simp) (fun h =>?_);omega)|(rw[decide_eq_true_eq];exact⟨fun h=>⟨by omega,by omega,hall⟩,fun h=>by omega⟩),m5.below⟩
end
section
abbrev w1:Int×List (Int×List Int):=(0,[])
def AG(fl:Int)(pins:List Int):Nat→Int
 | 0=>fl
 | k+1=>pins.getD k 0
def vc(fl:Int)(n:Nat)(pins:List Int)(k:Nat):Prop:=∀ j,j<k→AG fl pins j≤pins.getD j 0∧pins.getD j 0≤n
def s8(n:Nat)(pins:List Int):Int:=pins.foldl min (n:Int)
theorem wN{n:Nat}{pins:List Int}{k:Nat}(hk:k<pins.length):min (s8 n (pins.take k)) (pins.getD k 0)=s8 n (pins.take (k+1)):=by
 rw[List.take_succ_eq_append_getElem hk,s8,s8,List.foldl_append,List.getD,List.getElem?_eq_getElem hk];rfl
def oD(bl sz:Int)(ws:List (Int×List (Int×List Int)))(k:Nat):Prop:=∀ j,j<k→(ws.getD j w1).1=j+1∧mb bl sz (ws.getD j w1).2
def VolR(vo bl sz pe to ne fl:Int)(hi:Bool)(place pins:List Int)(ws:List (Int×List (Int×List Int))):Prop:=pU vo bl sz pe to place∧0≤ne∧ne≤to∧(hi=true→to≠0)∧(hi=false→ne=to)∧0≤fl∧fl≤ws.length∧vc fl ws.length pins pins.length∧oD bl sz ws ws.length
end
section

end
section
def bD(l:List Int):List D:=[.ns .u8 l]
def lu(fi cn9:Int)(es:List (Int×List Int)):List (Int×List Int):=(es.filter (fun x=>decide (fi≤x.1∧x.1≤fi+cn9 - 1))).map (fun x=>(x.1 - fi,x.2))
theorem qi{fi cn9:Int}{es:List (Int×List Int)}{k:Nat}{xb:Int}{xd:List Int}(h:es[k]? = some (xb,xd))(hb:fi≤xb∧xb≤fi+cn9 - 1):lu fi cn9 (es.take (k+1))=lu fi cn9 (es.take k)++[(xb - fi,xd)]:=by
 unfold lu
 rw[ln h,List.filter_append,List.map_append]
 simp [hb]
theorem oI{fi cn9:Int}{es:List (Int×List Int)}{k:Nat}{xb:Int}{xd:List Int}(h:es[k]? = some (xb,xd))(hb:¬ (fi≤xb∧xb≤fi+cn9 - 1)):lu fi cn9 (es.take (k+1))=lu fi cn9 (es.take k):=by
 unfold lu
 rw[ln h,List.filter_append,List.map_append]
 simp;omega
theorem oR(fi cn9:Int)(es:List (Int×List Int)):(lu fi cn9 es).length≤es.length:=by
 unfold lu;rw[List.length_map];exact List.length_filter_le _ _
end
section
def z8(L:List (List Int))(x:Int×List Int):List (List Int):=if 0≤x.1∧x.1≤(L.length:Int) - 1 then L.set x.1.toNat x.2 else L
def stW(L:List (List Int))(x:Int×List (Int×List Int)):List (List Int):=x.2.foldl z8 L
end
section
def lI(fi cnt:Int)(W:List (Int×List (Int×List Int))):List (Int×List (Int×List Int)):=(W.map (fun w=>(w.1,lu fi cnt w.2))).filter (fun w=>decide (0<w.2.length))
theorem tf{fi cnt:Int}{W:List (Int×List (Int×List Int))}{k:Nat}{xs:Int}{xl:List (Int×List Int)}(h:W[k]? = some (xs,xl))(hb:0<(lu fi cnt xl).length):lI fi cnt (W.take (k+1))=lI fi cnt (W.take k)++[(xs,lu fi cnt xl)]:=by
 unfold lI
 rw[ln h,List.map_append,List.filter_append]
 simp [hb]
theorem vn{fi cnt:Int}{W:List (Int×List (Int×List Int))}{k:Nat}{xs:Int}{xl:List (Int×List Int)}(h:W[k]? = some (xs,xl))(hb:¬ 0<(lu fi cnt xl).length):lI fi cnt (W.take (k+1))=lI fi cnt (W.take k):=by
 unfold lI
 rw[ln h,List.map_append,List.filter_append]
 simp;simpa using hb
theorem qH(fi cnt:Int)(W:List (Int×List (Int×List Int))):(lI fi cnt W).length≤W.length:=by
 unfold lI;exact Nat.le_trans (List.length_filter_le _ _) (by simp)
section
variable {P:Program} {n:Nat} {T:List (Nat×Value)} {a:Act} {w:World} {d:Option Tmp} {tt:TypeId} {pos:String} {af:Array Edge} {gd:Option (Nat×Bool)}
end
end
section

end
end Go.Proofs.YteglmahnkfgelaaGreat.K
