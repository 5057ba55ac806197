/- General laws of walks. -/
import Derived.Test.YteglmahnkfgelaaGreatG7
import Derived.Test.YteglmahnkfgelaaGreatG15
import Derived.Laws.StructEq
import Derived.ChangeKeysEq
namespace Go.Proofs.YteglmahnkfgelaaGreat.K
open Go.ChangeShapes Go.WideShapes Go.ChangeAt Go.RowKit
set_option linter.unusedVariables false
set_option linter.unusedSimpArgs false
set_option maxRecDepth 100000
set_option maxHeartbeats 4000000
set_option autoImplicit true
set_option relaxedAutoImplicit true
section
theorem yu:lR Tryz.prog 88 [.int .i64 0,.int .i64 0,.int .i64 0,.int .i64 0]=true:=by kernel_rfl
theorem yv:lR Tryz.prog 88 [.int .i64 0,.int .i64 0,.int .i64 0,.int .i64 0]=true:=by kernel_rfl
theorem yw:lR Tryz.prog 39 [.int .i64 0,.int .i64 0,.int .i64 0,.int .i64 0,.int .i64 0,.int .i64 0,.slice none 0 0]=true:=by kernel_rfl
section
variable {P:Program} {n:Nat} {T:List (Nat×Value)} {a:Act} {w w0:World} {X:Cx} {M:Mm} {tt:TypeId} {pos:String} {af:Array Edge} {gd:Option (Nat×Bool)} {K:Act→World→Prop} {Q:Exit→Act→World→Prop}
theorem Ax(n:Nat):(madeCells (Value.slice none 0 0).cells n).toList=List.replicate n (.slice none 0 0):=by
 unfold madeCells
 apply List.ext_getElem
 · simp
 intro i h1 h2
 simp [Value.cells,Nat.mod_one]
theorem uB(ha:Has n T a)(m:MemOk X w0 M w)(i:Nat){d:Tmp}{t e:TypeId}{x y:Operand}{kx ky:IntKind}{q q2:Int}{bytes:Nat}(N mm:Nat)(hx:evT T x=some (.int kx q))(hy:evT T y=some (.int ky q2))(hq:q=N)(hq2:q2=N)(ht:P.underlying t=some (.slice e))(hinf:(P.info? e).map (fun i=>(i.zero,i.size,i.bytes))=some (some (.slice none 0 0),1,bytes))(hb8:bytes≤1000)(hN:N≤100000000)(hd:Nat.blt d n=true)
   (h:∀ p c a' w',Has n ((d,.slice p N c) :: T) a'→MemOk X w0 ((i,.row (.slice p N c) e 1 (List.replicate N [D.l mm []])) :: M) w'→K a' w'):Oper.wp P ⟨some d,.makeSlice t x y,tt,pos,af,gd⟩ a w K Q:=by
 obtain⟨i0,hi,hz0,hz1,hz2⟩:=info_parts hinf
 subst hq;subst hq2
 have hby:N*bytes≤100000000000:=Nat.mul_le_mul hN hb8
 have hby2:(bytes:Int)*(N:Int)≤281474976710656:=by
   rw[← Int.natCast_mul,Nat.mul_comm];omega
 have hr:=run_make (P:=P) w t e i0 _ ht hi hz0 kx ky (N:Int) (N:Int) (by omega) (by omega) (by rw[hz2];exact hby2) (by omega)
 rw[hz1,Nat.mul_one,Int.toNat_natCast] at hr
 have hrun:(execOp a.eval ⟨some d,.makeSlice t x y,tt,pos,af,gd⟩).run P w=.ok (.value (.slice (some ⟨w.heap.size,0,none⟩) N N)) (w.alloc (.cells (madeCells (Value.slice none 0 0).cells N) e)):=by
   simp [execOp,ha.ev hx,ha.ev hy,hr]
 show Oper.upon P _ a K Q _
 rw[hrun]
 refine h _ _ _ _ (ha.put hd _) (m.newR i ((Below.refl _ w).alloc (Nat.le_refl _) _) ?_)
 have hfl:(List.replicate N [Value.slice none 0 0]).flatten=List.replicate N (Value.slice none 0 0):=by
   induction N with
   | zero=>rfl
   | succ k ih=>rw[List.replicate_succ,List.flatten_cons,List.replicate_succ];simp
 refine⟨List.replicate N [.slice none 0 0],?_,by simp,fun c hc =>?_,fun r hr =>?_,fun j q c r x d a1 a2 a3 a4 =>?_⟩
 · rw[List.length_replicate,hfl]
   refine⟨by simp,.inr ⟨w.heap.size,N,madeCells (Value.slice none 0 0).cells N,rfl,Nat.le_refl _,heap_alloc_new w _,Nat.le_refl _,by unfold maxLen;omega,by rw[size_madeCells,Nat.mul_one],?_⟩⟩
   rw[Ax,Nat.mul_one,List.take_of_length_le (by simp)]
 · rw[List.eq_of_mem_replicate hc];exact⟨rfl,fun x hx=>by rw[List.mem_singleton.1 hx];rfl⟩
 · rw[List.eq_of_mem_replicate hr];rfl
 have h1:=List.eq_of_mem_replicate (List.mem_of_getElem? a1)
 have h2:=List.eq_of_mem_replicate (List.mem_of_getElem? a2)
 subst h1;subst h2
 have h3:=List.mem_singleton.1 (List.mem_of_getElem? a3)
 have h4:=List.mem_singleton.1 (List.mem_of_getElem? a4)
 subst h3;subst h4
 exact .l0 none 0 mm
end
def nW(vo ch cn sz:Int):Prop:=(0≤vo∧vo≤7)∧(0≤ch∧ch≤255)∧(1≤cn∧cn≤256)∧(1≤sz∧sz≤32)
def WPre(fr to cn sz:Int)(W:List (Int×List (Int×List Int)))(k:Nat):Prop:=∀ j,j<k→(if j=0 then fr else (W.getD (j - 1) w1).1)<(W.getD j w1).1∧(W.getD j w1).1≤to∧mb cn sz (W.getD j w1).2
def nA(vo ch cn sz fr to fl:Int)(W:List (Int×List (Int×List Int))):Prop:=nW vo ch cn sz∧(0≤to∧to≤1099511627776)∧(0≤fr∧fr≤to)∧(0≤fl∧fl≤to)∧W.length≤4∧WPre fr to cn sz W W.length
theorem WPre.snoc{fr to cn sz:Int}{W:List (Int×List (Int×List Int))}{k:Nat}{xs:Int}{xl:List (Int×List Int)}(hp:WPre fr to cn sz W k)(hes:W[k]? = some (xs,xl))(h1:(if k=0 then fr else (W.getD (k - 1) w1).1)<xs)(h2:xs≤to)(h3:mb cn sz xl):WPre fr to cn sz W (k+1):=fun j hj=>by
 rcases Nat.lt_or_ge j k with h9|h9
 · exact hp j h9
 obtain rfl:j=k:=by omega
 rw[show W.getD j w1=(xs,xl) by rw[List.getD,hes];rfl]
 exact⟨h1,h2,h3⟩
def HOk(sz mk fl:Int)(h:List Ver):Prop:=RPre h h.length∧(lr h fl).length=h.length∧∀ j,j<h.length→(h.getD j v0).1≤mk∧((h.getD j v0).2.length:Int)=sz
def xi(vo ch cn sz mk fl:Int)(H:List (List Ver)):Prop:=nW vo ch cn sz∧(0≤mk∧mk≤1099511627776)∧(0≤fl∧fl≤mk)∧(H.length:Int)=cn∧∀ j,j<H.length→HOk sz mk fl (H.getD j [])
theorem nL(n lo hi:Int)(w0:World):Calls Tryz.prog 64 #[.int .i64 n,.int .i64 lo,.int .i64 hi] w0 fun e w'=>e=.returned (.bool (decide (lo≤n∧n≤hi)))∧Below w0.heap.size w0 w':=by
 refine qr Tryz.func64 rfl Tryz.ntmps64 fun Y U =>?_
 have m0:=MemOk.start (fun _=>False) w0
 refine la U (.assign rfl .nil) fun Y U =>?_
 refine zsr fun K0 hK0 =>?_
 refine k9 U (.move rfl<|.move rfl<|.geq rfl rfl<|.move rfl .nil) fun Y U =>?_
 refine bc U 10 ?_ ?_
 ·
  intro hb10 U;try simp only [QQ,Qax] at hb10
  refine gz hK0 U (.moveZ rfl<|.moveZ rfl<|.leqZ rfl rfl<|.pickT rfl rfl<|.assign rfl<|.nil) fun Y U =>?_
  refine rt1 U ?_
  exact⟨by first|rfl|(simp_all;done)|(simp_all;omega),m0.below⟩
 intro hb10 U;try simp only [QQ,Qax] at hb10
 refine gz hK0 U (.sk<|.sk<|.sk<|.pickF rfl rfl<|.assign rfl<|.nil) fun Y U =>?_
 refine rt1 U ?_
 exact⟨by first|rfl|(simp_all;done)|(simp_all;omega),m0.below⟩
theorem mZ(n lo hi:Int)(w0:World):Calls Tryz.prog 46 #[.int .i64 n,.int .i64 lo,.int .i64 hi] w0 fun e w'=>e=.returned (.bool (decide (lo≤n∧n≤hi)))∧Below w0.heap.size w0 w':=by
 refine qr Tryz.func46 rfl Tryz.ntmps46 fun Y U =>?_
 have m0:=MemOk.start (fun _=>False) w0
 refine la U (.assign rfl .nil) fun Y U =>?_
 refine zsr fun K0 hK0 =>?_
 refine k9 U (.move rfl<|.move rfl<|.geq rfl rfl<|.move rfl .nil) fun Y U =>?_
 refine bc U 10 ?_ ?_
 ·
  intro hb10 U;try simp only [QQ,Qax] at hb10
  refine gz hK0 U (.moveZ rfl<|.moveZ rfl<|.leqZ rfl rfl<|.pickT rfl rfl<|.assign rfl<|.nil) fun Y U =>?_
  refine rt1 U ?_
  exact⟨by first|rfl|(simp_all;done)|(simp_all;omega),m0.below⟩
 intro hb10 U;try simp only [QQ,Qax] at hb10
 refine gz hK0 U (.sk<|.sk<|.sk<|.pickF rfl rfl<|.assign rfl<|.nil) fun Y U =>?_
 refine rt1 U ?_
 exact⟨by first|rfl|(simp_all;done)|(simp_all;omega),m0.below⟩
theorem nK(vo ch cn sz mk fl:Int)(vH:Value)(w0:World):Calls Tryz.prog 52 #[.agg #[.int .i64 vo,.int .i64 ch,.int .i64 cn,.int .i64 sz,.int .i64 mk,.int .i64 fl,vH]] w0 fun e w'=>e=.returned (.agg #[.int .i64 vo,.int .i64 ch,.int .i64 cn,.int .i64 sz])∧Below w0.heap.size w0 w':=by
 refine mp Tryz.func52 rfl Tryz.ntmps52 fun Y U =>?_
 have m0:=MemOk.start (fun _=>False) w0
 refine zsr fun K0 hK0 =>?_
 refine plz (ly U m0 20 (cs:=[_,_,_,_,_,_,_]) rfl rfl rfl fun g1 Y w2 U m2 _ _ =>?_)
 refine plz (lc U m2 21 xg rfl fun g3 Y w4 U m4 _ _ =>?_)
 refine znl (hK0 _ _ ?_)
 refine zsr fun K1 hK1 =>?_
 refine k9 U (.fa 0 rfl U39<|.lb m4 20 U3 rfl rfl rfl<|.fa 1 rfl U39<|.lb m4 20 U3 rfl rfl rfl<|.fa 2 rfl U39<|.lb m4 20 U3 rfl rfl rfl<|.fa 3 rfl U39<|.lb m4 20 U3 rfl rfl rfl<|.build rfl xg yu rfl (by dsimp only [l9,List.set] <;> rfl) .nil) fun Y U =>?_
 refine plz (stw U m4 21 xf fun w23 m23 _ =>?_)
 refine znl (hK1 _ _ ?_)
 refine rtd (mK (fn:=Tryz.f52) U m23 (i:=21) rfl rfl rfl U88 rfl xf ?_)
 exact⟨rfl,m23.below⟩
theorem qw(vo ch cn sz fr to fl:Int)(pw:Option Addr)(nw cw:Nat)(w0:World):Calls Tryz.prog 44 #[.agg #[.int .i64 vo,.int .i64 ch,.int .i64 cn,.int .i64 sz,.int .i64 fr,.int .i64 to,.int .i64 fl,.slice pw nw cw]] w0 fun e w'=>e=.returned (.agg #[.int .i64 vo,.int .i64 ch,.int .i64 cn,.int .i64 sz])∧Below w0.heap.size w0 w':=by
 refine mp Tryz.func44 rfl Tryz.ntmps44 fun Y U =>?_
 have m0:=MemOk.start (fun _=>False) w0
 refine zsr fun K0 hK0 =>?_
 refine plz (ly U m0 20 (cs:=[_,_,_,_,_,_,_,_]) rfl rfl rfl fun g1 Y w2 U m2 _ _ =>?_)
 refine plz (lc U m2 21 xg rfl fun g3 Y w4 U m4 _ _ =>?_)
 refine znl (hK0 _ _ ?_)
 refine zsr fun K1 hK1 =>?_
 refine k9 U (.fa 0 rfl U25<|.lb m4 20 U3 rfl rfl rfl<|.fa 1 rfl U25<|.lb m4 20 U3 rfl rfl rfl<|.fa 2 rfl U25<|.lb m4 20 U3 rfl rfl rfl<|.fa 3 rfl U25<|.lb m4 20 U3 rfl rfl rfl<|.build rfl xg yv rfl (by dsimp only [l9,List.set] <;> rfl) .nil) fun Y U =>?_
 refine plz (stw U m4 21 xf fun w23 m23 _ =>?_)
 refine znl (hK1 _ _ ?_)
 refine rtd (mK (fn:=Tryz.f44) U m23 (i:=21) rfl rfl rfl U88 rfl xf ?_)
 exact⟨rfl,m23.below⟩
theorem sT(vo ch cn sz:Int)(w0:World):Calls Tryz.prog 45 #[.agg #[.int .i64 vo,.int .i64 ch,.int .i64 cn,.int .i64 sz]] w0 fun e w' => ∃ b:Bool,e=.returned (.bool b)∧(b=true↔nW vo ch cn sz)∧Below w0.heap.size w0 w':=by
 refine mp Tryz.func45 rfl Tryz.ntmps45 fun Y U =>?_
 have m0:=MemOk.start (fun _=>False) w0
 refine zsr fun K0 hK0 =>?_
 refine plz (ly U m0 20 (cs:=[_,_,_,_]) rfl rfl rfl fun g1 Y w2 U m2 _ _ =>?_)
 refine gz hK0 U (.assign rfl .nil) fun Y U =>?_
 refine zsr fun K1 hK1 =>?_
 refine k9 U (.fa 0 rfl U88<|.lb m2 20 U3 rfl rfl rfl .nil) fun Y U =>?_
 refine plz (ecb U Tryz.func64 rfl m2 (nL _ _ _ _) fun Y w8 U m9 =>?_)
 refine k9 U (.move rfl .nil) fun Y U =>?_
 refine bc U 6 ?_ ?_
 ·
  intro aa U;try simp only [QQ,Qax] at aa
  refine k9 U (.faZ 1 rfl U88<|.loadB1Z m9 (i:=20) rfl rfl rfl U3 rfl .nil) fun Y U =>?_
  refine stz U (ecb U Tryz.func64 rfl m9 (nL _ _ _ _) fun Y ah U ad =>?_)
  refine k9 U (.pickT rfl rfl<|.move rfl .nil) fun Y U =>?_
  refine bc U 11 ?_ ?_
  ·
   intro ab U;try simp only [QQ,Qax] at ab
   refine k9 U (.faZ 2 rfl U88<|.loadB1Z ad (i:=20) rfl rfl rfl U3 rfl .nil) fun Y U =>?_
   refine stz U (ecb U Tryz.func64 rfl ad (nL _ _ _ _) fun Y ai U ae =>?_)
   refine k9 U (.pickT rfl rfl<|.move rfl .nil) fun Y U =>?_
   refine bc U 16 ?_ ?_
   ·
    intro ac U;try simp only [QQ,Qax] at ac
    refine k9 U (.faZ 3 rfl U88<|.loadB1Z ae (i:=20) rfl rfl rfl U3 rfl .nil) fun Y U =>?_
    refine stz U (ecb U Tryz.func64 rfl ae (nL _ _ _ _) fun Y aj U ag =>?_)
    refine gz hK1 U (.pickT rfl rfl<|.assign rfl<|.nil) fun Y U =>?_
    refine rt1 U ?_
    exact⟨_,rfl,by first|(simp [nW] at *;omega)|(unfold nW;simp_all;omega)|(unfold nW;simp_all),ag.below⟩
   intro ac U;try simp only [QQ,Qax] at ac
   refine gz hK1 U (.sk<|.sk<|.sk<|.pickF rfl rfl<|.assign rfl<|.nil) fun Y U =>?_
   refine rt1 U ?_
   exact⟨_,rfl,by first|(simp [nW] at *;omega)|(unfold nW;simp_all;omega)|(unfold nW;simp_all),ae.below⟩
  intro ab U;try simp only [QQ,Qax] at ab
  refine gz hK1 U (.sk<|.sk<|.sk<|.pickF rfl rfl<|.move rfl<|.sk<|.sk<|.sk<|.pickF rfl rfl<|.assign rfl<|.nil) fun Y U =>?_
  refine rt1 U ?_
  exact⟨_,rfl,by first|(simp [nW] at *;omega)|(unfold nW;simp_all;omega)|(unfold nW;simp_all),ad.below⟩
 intro aa U;try simp only [QQ,Qax] at aa
 refine gz hK1 U (.sk<|.sk<|.sk<|.pickF rfl rfl<|.move rfl<|.sk<|.sk<|.sk<|.pickF rfl rfl<|.move rfl<|.sk<|.sk<|.sk<|.pickF rfl rfl<|.assign rfl<|.nil) fun Y U =>?_
 refine rt1 U ?_
 exact⟨_,rfl,by first|(simp [nW] at *;omega)|(unfold nW;simp_all;omega)|(unfold nW;simp_all),m9.below⟩
theorem xo(X:Cx)(vo ch sz fr to fl:Int)(n9:Nat)(pw:Option Addr)(nw cw:Nat)(w0:World)(hn:n9≤256)(m0:MemOk X w0 [] w0) :
   Calls Tryz.prog 21 #[.agg #[.int .i64 vo,.int .i64 ch,.int .i64 n9,.int .i64 sz,.int .i64 fr,.int .i64 to,.int .i64 fl,.slice pw nw cw]] w0 fun e w' => ∃ (p9:Option Addr) (c9:Nat),e=.returned (.agg #[.int .i64 vo,.int .i64 ch,.int .i64 n9,.int .i64 sz,.int .i64 0,.int .i64 0,.slice p9 n9 c9])∧MemOk X w0 [(9,.row (.slice p9 n9 c9) 94 1 ((List.replicate n9 ([]:List Ver)).map hD))] w':=by
 refine mp Tryz.func21 rfl Tryz.ntmps21 fun Y U =>?_
 refine zsr fun K0 hK0 =>?_
 refine plz (ly U m0 20 (cs:=[_,_,_,_,_,_,_,_]) rfl rfl rfl fun g1 Y w2 U m2 _ _ =>?_)
 refine plz (lc U m2 21 oV rfl fun g3 Y w4 U m4 _ _ =>?_)
 refine znl (hK0 _ _ ?_)
 refine zsr fun K1 hK1 =>?_
 refine k9 U (.fa 0 rfl U25<|.lb m4 20 U3 rfl rfl rfl<|.fa 1 rfl U25<|.lb m4 20 U3 rfl rfl rfl<|.fa 2 rfl U25<|.lb m4 20 U3 rfl rfl rfl<|.fa 3 rfl U25<|.lb m4 20 U3 rfl rfl rfl<|.build rfl oV yw rfl (by dsimp only [l9,List.set] <;> rfl) .nil) fun Y U =>?_
 refine plz (lc U m4 22 oV rfl fun ah Y ai U ae _ _ =>?_)
 refine plz (stw U ae 22 lH fun aj ab _ =>?_)
 refine znl (hK1 _ _ ?_)
 refine wsk fun K2 hK2 =>?_
 replace U:=U.oz [1,2,3]
 refine zsr fun K3 hK3 =>?_
 refine k9 U (.fa 2 rfl U25<|.lb ab 20 U3 rfl rfl rfl .nil) fun Y U =>?_
 refine plz (ecb U Tryz.func64 rfl ab (nL _ _ _ _) fun Y ak U ac =>?_)
 refine znl (hK3 _ _ ?_)
 refine bcP U 15 fun U =>?_
 refine wct U ?_
 refine wp_region_lit ?_
 refine k9 U (.fa 2 rfl U25<|.lb ac 20 U3 rfl rfl rfl .nil) fun Y U =>?_
 refine plz (uB U ac 23 (n9) 2 rfl rfl rfl rfl U37 ue (by decide) (by omega) rfl fun al ao Y ap U ag =>?_)
 refine k9 U (.fieldAddr (off:=6) rfl U39 rfl (s:=0) (by kernel_rfl) rfl .nil) fun Y U =>?_
 refine plz (st1 U ag 22 x8 fun aq ad _ =>?_)
 refine znl (hK2 _ _ ?_)
 replace U:=U.oz [2,3]
 refine zsr fun K4 hK4 =>?_
 refine k9 U (.loadBR ad (i:=22) rfl rfl U39 rfl lH (by simp) (by dsimp only [List.drop,List.take] <;> rfl) .nil) fun Y U =>?_
 refine plz (stw U ad 21 lH fun ar aa _ =>?_)
 refine znl (hK4 _ _ ?_)
 refine rtd (mK (fn:=Tryz.f21) U aa (i:=21) rfl rfl rfl U39 rfl lH ?_)
 have hE:List.replicate n9 [D.l 2 []]=(List.replicate n9 ([]:List Ver)).map hD:=by rw[List.map_replicate];rfl
 rw[hE] at aa
 have hn:n9=(List.replicate n9 ([]:List Ver)).length:=List.length_replicate.symm
 exact⟨_,_,rfl,aa.ren [(9,23)] (by decide)⟩
theorem vV(bl sz:Int)(l:List (Int×List Int))(p:Option Addr)(nn c:Nat)(w0:World)(h0:Rd (fun _=>True) w0 (.slice p nn c) (.l 2 (l.map itD)))(hl:l.length≤1000000) :
   Calls Tryz.prog 47 #[.int .i64 bl,.int .i64 sz,.slice p nn c] w0 fun e w' => ∃ b:Bool,e=.returned (.bool b)∧(b=true↔mb bl sz l)∧Below w0.heap.size w0 w':=by
 obtain rfl:=nX h0
 exact tF bl sz l p c w0 h0 hl
theorem nh(X:Cx)(vo ch cn sz fr to fl:Int)(W:List (Int×List (Int×List Int)))(pw:Option Addr)(nw cw:Nat)(w0:World)(hl:W.length≤1000000)(hW:∀ e∈W,e.2.length≤1000000)(m0:MemOk X w0 [(1,.dat (.slice pw nw cw) (.l 2 (W.map wrD)))] w0) :
   Calls Tryz.prog 14 #[.agg #[.int .i64 vo,.int .i64 ch,.int .i64 cn,.int .i64 sz,.int .i64 fr,.int .i64 to,.int .i64 fl,.slice pw nw cw]] w0 fun e w' => ∃ b:Bool,e=.returned (.bool b)∧(b=true↔nA vo ch cn sz fr to fl W)∧MemOk X w0 [(1,.dat (.slice pw nw cw) (.l 2 (W.map wrD)))] w':=by
 obtain rfl:=nX (m0.rd (i:=1) rfl)
 refine mp Tryz.func14 rfl Tryz.ntmps14 fun Y U =>?_
 refine zsr fun K0 hK0 =>?_
 refine plz (ly U m0 20 (cs:=[_,_,_,_,_,_,_,_]) rfl rfl rfl fun g1 Y w2 U m2 _ _ =>?_)
 refine gz hK0 U (.assign rfl .nil) fun Y U =>?_
 refine wsk fun K1 hK1 =>?_
 refine zsr fun K2 hK2 =>?_
 refine k9 U (.loadBR m2 (i:=20) rfl rfl U25 rfl lF (by simp) (by dsimp only [List.drop,List.take] <;> rfl) .nil) fun Y U =>?_
 refine plz (ecb U Tryz.func44 rfl m2 (qw _ _ _ _ _ _ _ _ _ _ _) fun Y w6 U m7 =>?_)
 refine plz (ecl U Tryz.func45 rfl (sT _ _ _ _ _) ?_)
 rintro e w9 ⟨bs9,rfl,hbs,hb9⟩
 have aD:=m7.later hb9
 refine⟨_,rfl,?_⟩;intro Y U
 refine k9 U (.not rfl<|.move rfl .nil) fun Y U =>?_
 refine bc U 10 ?_ ?_
 ·
  intro al U;try simp only [QQ,Qax] at al
  have hs0:¬ nW vo ch cn sz:=fun h9=>by have:=hbs.2 h9;have h8:=al;simp_all
  refine gz hK2 U (.sk<|.sk<|.sk<|.sk<|.pickT rfl rfl<|.move rfl<|.sk<|.sk<|.sk<|.sk<|.sk<|.sk<|.pickT rfl rfl<|.move rfl<|.sk<|.sk<|.sk<|.sk<|.sk<|.sk<|.pickT rfl rfl<|.move rfl<|.sk<|.sk<|.sk<|.sk<|.pickT rfl rfl<|.nil) fun Y U =>?_
  refine wct U ?_
  replace U:=U.oz [1,2,10,16,24,32,37]
  refine la U (.assign rfl .nil) fun Y U =>?_
  refine rt1 U ?_
  exact⟨_,rfl,iff_of_false (by simp) (fun h9=>hs0 h9.1),aD.only [1]⟩
 intro al U;try simp only [QQ,Qax] at al
 have hs1:nW vo ch cn sz:=hbs.1 (by have h8:=al;simpa using h8)
 refine k9 U (.faZ 5 rfl U25<|.loadB1Z aD (i:=20) rfl rfl rfl U2 rfl .nil) fun Y U =>?_
 refine stz U (ecb U Tryz.func46 rfl aD (mZ _ _ _ _) fun Y aR U aB =>?_)
 refine k9 U (.notZ rfl<|.pickF rfl rfl<|.move rfl .nil) fun Y U =>?_
 refine bc U 16 ?_ ?_
 ·
  intro ao U;try simp only [QQ,Qax] at ao
  have ht0:¬ (0≤to∧to≤1099511627776):=by have:=ao;first|omega|(simp at this;omega)|(simp at this;exact this)|simp_all
  refine gz hK2 U (.sk<|.sk<|.sk<|.sk<|.sk<|.sk<|.pickT rfl rfl<|.move rfl<|.sk<|.sk<|.sk<|.sk<|.sk<|.sk<|.pickT rfl rfl<|.move rfl<|.sk<|.sk<|.sk<|.sk<|.pickT rfl rfl<|.nil) fun Y U =>?_
  refine wct U ?_
  replace U:=U.oz [1,2,10,16,24,32,37]
  refine la U (.assign rfl .nil) fun Y U =>?_
  refine rt1 U ?_
  exact⟨_,rfl,iff_of_false (by simp) (fun h9=>ht0 h9.2.1),aB.only [1]⟩
 intro ao U;try simp only [QQ,Qax] at ao
 have ht1:0≤to∧to≤1099511627776:=by have:=ao;first|omega|(simp at this;omega)|(simp at this;exact this)|simp_all
 refine k9 U (.faZ 4 rfl U25<|.loadB1Z aB (i:=20) rfl rfl rfl U2 rfl<|.faZ 5 rfl U25<|.loadB1Z aB (i:=20) rfl rfl rfl U2 rfl .nil) fun Y U =>?_
 refine stz U (ecb U Tryz.func46 rfl aB (mZ _ _ _ _) fun Y aS U aC =>?_)
 refine k9 U (.notZ rfl<|.pickF rfl rfl<|.move rfl .nil) fun Y U =>?_
 refine bc U 24 ?_ ?_
 ·
  intro ap U;try simp only [QQ,Qax] at ap
  have hf0:¬ (0≤fr∧fr≤to):=by have:=ap;first|omega|(simp at this;omega)|(simp at this;exact this)|simp_all
  refine gz hK2 U (.sk<|.sk<|.sk<|.sk<|.sk<|.sk<|.pickT rfl rfl<|.move rfl<|.sk<|.sk<|.sk<|.sk<|.pickT rfl rfl<|.nil) fun Y U =>?_
  refine wct U ?_
  replace U:=U.oz [1,2,10,16,24,32,37]
  refine la U (.assign rfl .nil) fun Y U =>?_
  refine rt1 U ?_
  exact⟨_,rfl,iff_of_false (by simp) (fun h9=>hf0 h9.2.2.1),aC.only [1]⟩
 intro ap U;try simp only [QQ,Qax] at ap
 have hf1:0≤fr∧fr≤to:=by have:=ap;first|omega|(simp at this;omega)|(simp at this;exact this)|simp_all
 refine k9 U (.faZ 6 rfl U25<|.loadB1Z aC (i:=20) rfl rfl rfl U2 rfl<|.faZ 5 rfl U25<|.loadB1Z aC (i:=20) rfl rfl rfl U2 rfl .nil) fun Y U =>?_
 refine stz U (ecb U Tryz.func46 rfl aC (mZ _ _ _ _) fun Y aH U aj =>?_)
 refine k9 U (.notZ rfl<|.pickF rfl rfl<|.move rfl .nil) fun Y U =>?_
 refine bc U 32 ?_ ?_
 ·
  intro ac U;try simp only [QQ,Qax] at ac
  have hl0:¬ (0≤fl∧fl≤to):=by have:=ac;first|omega|(simp at this;omega)|(simp at this;exact this)|simp_all
  refine gz hK2 U (.sk<|.sk<|.sk<|.sk<|.pickT rfl rfl<|.nil) fun Y U =>?_
  refine wct U ?_
  replace U:=U.oz [1,2,10,16,24,32,37]
  refine la U (.assign rfl .nil) fun Y U =>?_
  refine rt1 U ?_
  exact⟨_,rfl,iff_of_false (by simp) (fun h9=>hl0 h9.2.2.2.1),aj.only [1]⟩
 intro ac U;try simp only [QQ,Qax] at ac
 have hl1:0≤fl∧fl≤to:=by have:=ac;first|omega|(simp at this;omega)|(simp at this;exact this)|simp_all
 refine gz hK2 U (.faZ 7 rfl U25<|.loadB1Z aj (i:=20) rfl rfl rfl U23 rfl<|.lenZ rfl U23<|.gtrZ rfl rfl<|.pickF rfl rfl<|.nil) fun Y U =>?_
 refine bc U 37 ?_ ?_
 ·
  intro ad U;try simp only [QQ,Qax] at ad
  have hn0:¬ W.length≤4:=by have:=ad;first|omega|(simp at this;omega)|(simp at this;exact this)|simp_all
  refine wct U ?_
  replace U:=U.oz [1,2,10,16,24,32,37]
  refine la U (.assign rfl .nil) fun Y U =>?_
  refine rt1 U ?_
  exact⟨_,rfl,iff_of_false (by simp) (fun h9=>hn0 h9.2.2.2.2.1),aj.only [1]⟩
 intro ad U;try simp only [QQ,Qax] at ad
 have hn1:W.length≤4:=by have:=ad;first|omega|(simp at this;omega)|(simp at this;exact this)|simp_all
 refine wcf U ?_
 refine zss (hK1 _ _ ?_)
 replace U:=U.oz [1,2,10,16,24,32,37]
 refine la U (.fa 4 rfl U25<|.lb aj 20 U2 rfl rfl rfl<|.assign rfl .nil) fun Y U =>?_
 refine wsk fun K3 hK3 =>?_
 refine la U (.fa 7 rfl U25<|.lb aj 20 U23 rfl rfl rfl<|.len rfl U23<|.move rfl .nil) fun Y U =>?_
 refine wp_block ?_
 refine wp_loop_ghost (fun g a w => ∃ (k gP:Nat),k≤W.length∧g=W.length - k∧WPre fr to cn sz W k∧Has 71 [(1,.pointer (some ⟨gP,0,none⟩)),(3,.int .i64 (if k=0 then fr else (W.getD (k - 1) w1).1)),(41,.slice pw W.length cw),(42,.int .i64 W.length),(43,.int .i64 k)] a∧MemOk X w0 [(1,.dat (.slice pw W.length cw) (.l 2 (W.map wrD))),(2,.box gP 25 [.int .i64 vo,.int .i64 ch,.int .i64 cn,.int .i64 sz,.int .i64 fr,.int .i64 to,.int .i64 fl,.slice pw W.length cw])] w) (W.length) ?_ ?_
 · exact⟨0,_,Nat.zero_le _,rfl,fun j hj=>by omega,U.only [1,3,41,42,43],aj.ren [(1,1),(2,20)] (by decide)⟩
 clear U aj
 rintro g Y aI ⟨k,gP,hkl,hg,hp,U,aq⟩
 refine la U (.lss rfl rfl .nil) fun Y U =>?_
 refine wsk fun K4 hK4 =>?_
 refine bc U 44 ?_ ?_
 ·
  intro ae U;try simp only [QQ,Qax] at ae
  have hk:k<W.length:=by have:=ae;first|omega|(simp at this;omega)
  obtain⟨⟨xs,xl⟩,hes⟩:∃ e,W[k]? = some e:=⟨_,List.getElem?_eq_getElem hk⟩
  have hxl:xl.length≤1000000:=hW _ (List.mem_of_getElem? hes)
  have hx9:W.getD k w1=(xs,xl):=by rw[List.getD,hes];rfl
  refine wct U ?_
  refine zss (hK4 _ _ ?_)
  refine wsk fun K5 hK5 =>?_
  refine wp_block ?_
  refine zsr fun K6 hK6 =>?_
  obtain⟨aJ,aK,aF,au,av,aw,ax⟩:=aq.openR (i:=1) rfl (k) (r:=[.v (.int .i64 xs),.l 2 (xl.map itD)]) (mj hes) 100 rfl
  revert U
  cases au;clear aq aw
  rcases av with _|⟨ak,_|⟨ab,_|_⟩⟩
  obtain rfl:=ak.v_out
  clear ak
  obtain⟨aL,aM,ay,aG⟩:=ab.l_shape;subst ay
  intro U
  have az:=ax.dat 101 rfl (ab.cast (fun _ h=>(lf rfl h)));clear ax ab
  refine k9 U (.c rfl (fun _ h_=>li h_ rfl rfl U23 nV (k) rfl hk)<|.loadCR az (i:=100) rfl rfl U30 rfl nV .nil) fun Y U =>?_
  refine plz (lc U az 102 rJ rfl fun aN Y aO U aE _ _ =>?_)
  refine plz (stw U aE 102 nV fun aP aa _ =>?_)
  refine znl (hK6 _ _ ?_)
  refine wsk fun K7 hK7 =>?_
  refine zsr fun K8 hK8 =>?_
  refine k9 U (.fa 0 rfl U30<|.lb aa 102 U2 rfl rfl rfl<|.move rfl<|.leq rfl rfl<|.move rfl .nil) fun Y U =>?_
  refine bc U 51 ?_ ?_
  ·
   intro ag U;try simp only [QQ,Qax] at ag
   have hle:xs≤(if k=0 then fr else (W.getD (k - 1) w1).1):=by have:=ag;first|omega|(simp at this;omega)|(simp at this;exact this)|simp_all
   refine gz hK8 U (.sk<|.sk<|.sk<|.sk<|.sk<|.pickT rfl rfl<|.move rfl<|.sk<|.sk<|.sk<|.sk<|.sk<|.sk<|.sk<|.sk<|.pickT rfl rfl<|.nil) fun Y U =>?_
   refine wct U ?_
   replace U:=U.oz [1,3,41,42,43,44,5,51,58,67]
   refine la U (.assign rfl .nil) fun Y U =>?_
   refine rt1 U ?_
   exact⟨_,rfl,iff_of_false (by simp) (fun h9=>by have:=(h9.2.2.2.2.2 k hk).1;rw[hx9] at this;dsimp only at this;omega),aa.only [1]⟩
  intro ag U;try simp only [QQ,Qax] at ag
  have hlt:(if k=0 then fr else (W.getD (k - 1) w1).1)<xs:=by have:=ag;first|omega|(simp at this;omega)|(simp at this;exact this)|simp_all
  refine k9 U (.faZ 0 rfl U30<|.loadB1Z aa (i:=102) rfl rfl rfl U2 rfl<|.faZ 5 rfl U25<|.loadB1Z aa (i:=2) rfl rfl rfl U2 rfl<|.gtrZ rfl rfl<|.pickF rfl rfl<|.move rfl .nil) fun Y U =>?_
  refine bc U 58 ?_ ?_
  ·
   intro ah U;try simp only [QQ,Qax] at ah
   have hto0:to<xs:=by have:=ah;first|omega|(simp at this;omega)|(simp at this;exact this)|simp_all
   refine gz hK8 U (.sk<|.sk<|.sk<|.sk<|.sk<|.sk<|.sk<|.sk<|.pickT rfl rfl<|.nil) fun Y U =>?_
   refine wct U ?_
   replace U:=U.oz [1,3,41,42,43,44,5,51,58,67]
   refine la U (.assign rfl .nil) fun Y U =>?_
   refine rt1 U ?_
   exact⟨_,rfl,iff_of_false (by simp) (fun h9=>by have:=(h9.2.2.2.2.2 k hk).2.1;rw[hx9] at this;dsimp only at this;omega),aa.only [1]⟩
  intro ah U;try simp only [QQ,Qax] at ah
  have hto:xs≤to:=by have:=ah;first|omega|(simp at this;omega)|(simp at this;exact this)|simp_all
  refine k9 U (.faZ 2 rfl U25<|.loadB1Z aa (i:=2) rfl rfl rfl U3 rfl<|.faZ 3 rfl U25<|.loadB1Z aa (i:=2) rfl rfl rfl U3 rfl<|.faZ 1 rfl U30<|.loadB1Z aa (i:=102) rfl rfl rfl U28 rfl .nil) fun Y U =>?_
  refine stz U (ecl U Tryz.func47 rfl (vV cn sz xl _ _ _ _ (aa.rd (i:=101) rfl).any hxl) ?_)
  rintro e aQ ⟨bi9,rfl,hbi,aA⟩
  have ar:=aa.later aA
  refine⟨_,rfl,?_⟩;intro Y U
  refine gz hK8 U (.notZ rfl<|.pickF rfl rfl<|.nil) fun Y U =>?_
  refine bc U 67 ?_ ?_
  ·
   intro ai U;try simp only [QQ,Qax] at ai
   have hit0:¬ mb cn sz xl:=fun h9=>by have:=hbi.2 h9;have h8:=ai;simp_all
   refine wct U ?_
   replace U:=U.oz [1,3,41,42,43,44,5,51,58,67]
   refine la U (.assign rfl .nil) fun Y U =>?_
   refine rt1 U ?_
   exact⟨_,rfl,iff_of_false (by simp) (fun h9=>hit0 (by have:=(h9.2.2.2.2.2 k hk).2.2;rw[hx9] at this;exact this)),ar.only [1]⟩
  intro ai U;try simp only [QQ,Qax] at ai
  have hit:bi9=true:=by have h8:=ai;simpa using h8
  refine wcf U ?_
  refine zss (hK7 _ _ ?_)
  replace U:=U.oz [1,3,41,42,43,44,5,51,58,67]
  refine wp_region_lit ?_
  refine gz hK5 U (.fa 0 rfl U30<|.lb ar 102 U2 rfl rfl rfl<|.assign rfl<|.nil) fun Y U =>?_
  refine wp_region_lit ?_
  refine k9 U (.inc (k+1)<|.move rfl .nil) fun Y U =>?_
  refine wpList_nil ?_
  show ∃ n',n'<_∧_
  have hla:xs=(if k+1=0 then fr else (W.getD (k+1 - 1) w1).1):=by rw[if_neg (by omega),Nat.add_sub_cancel,List.getD,hes];rfl
  rw[hla] at U
  exact⟨W.length - (k+1),by omega,k+1,_,by omega,rfl,WPre.snoc hp hes hlt hto (hbi.1 hit),U.only [1,3,41,42,43],ar.only [1,2]⟩
 intro ae U;try simp only [QQ,Qax] at ae
 revert U
 obtain rfl:k=W.length:=by have:=ae;first|omega|(simp at this;omega)
 intro U
 refine wcf U ?_
 refine wp_exit ?_
 refine hK3 _ _ ?_
 refine la U (.assign rfl .nil) fun Y U =>?_
 refine rt1 U ?_
 exact⟨_,rfl,iff_of_true rfl ⟨hs1,ht1,hf1,hl1,hn1,hp⟩,aq.only [1]⟩
theorem r9(X:Cx)(vo ch cn sz mk fl:Int)(vH:Value)(h:List Ver)(p:Option Addr)(nn c:Nat)(w0:World)(hl:h.length≤1000000)(hok:∀ v∈h,v.2.length≤1000000)(m0:MemOk X w0 [(1,.dat (.slice p nn c) (.l 2 (h.map itD)))] w0) :
   Calls Tryz.prog 65 #[.agg #[.int .i64 vo,.int .i64 ch,.int .i64 cn,.int .i64 sz,.int .i64 mk,.int .i64 fl,vH],.slice p nn c] w0 fun e w' => ∃ b:Bool,e=.returned (.bool b)∧(b=true↔HOk sz mk fl h)∧MemOk X w0 [(1,.dat (.slice p nn c) (.l 2 (h.map itD)))] w':=by
 obtain rfl:=nX (m0.rd (i:=1) rfl)
 refine mR Tryz.func65 rfl Tryz.ntmps65 fun Y U =>?_
 refine zsr fun K0 hK0 =>?_
 refine plz (ly U m0 20 (cs:=[_,_,_,_,_,_,_]) rfl rfl rfl fun g1 Y w2 U m2 _ _ =>?_)
 refine gz hK0 U (.assign rfl .nil) fun Y U =>?_
 refine wsk fun K1 hK1 =>?_
 refine zsr fun K2 hK2 =>?_
 refine k9 U (.move rfl .nil) fun Y U =>?_
 refine plz (ecl U Tryz.func99 rfl (vU _ h _ _ _ _ hl (m2.into [(1,1)] (by decide) rfl)) ?_)
 rintro e w6 ⟨bh9,rfl,hbh,hm6⟩
 have mx6:=m2.back hm6 [(1,1)] (by decide);clear hm6 m2
 have m6:=mx6.oz [1,20]
 refine⟨_,rfl,?_⟩;intro Y U
 refine k9 U (.not rfl<|.move rfl .nil) fun Y U =>?_
 refine bc U 10 ?_ ?_
 ·
  intro ab U;try simp only [QQ,Qax] at ab
  have hr0:¬ RPre h h.length:=fun h9=>by have:=hbh.2 h9;have h8:=ab;simp_all
  refine gz hK2 U (.sk<|.sk<|.sk<|.sk<|.sk<|.sk<|.sk<|.sk<|.pickT rfl rfl<|.nil) fun Y U =>?_
  refine wct U ?_
  replace U:=U.oz [1,2,4,10,19]
  refine la U (.assign rfl .nil) fun Y U =>?_
  refine rt1 U ?_
  exact⟨_,rfl,iff_of_false (by simp) (fun h9=>hr0 h9.1),m6.only [1]⟩
 intro ab U;try simp only [QQ,Qax] at ab
 have hrp:RPre h h.length:=hbh.1 (by have h8:=ab;simpa using h8)
 refine k9 U (.moveZ rfl<|.faZ 5 rfl U39<|.loadB1Z m6 (i:=20) rfl rfl rfl U2 rfl .nil) fun Y U =>?_
 refine stz U (ecl U Tryz.func54 rfl (sS _ h fl _ _ _ _ hl hok hrp.rise (m6.into [(1,1)] (by decide) rfl)) ?_)
 rintro e aA ⟨aB,aC,rfl,aj⟩
 have ak:=m6.back aj [(1,1),(21,9)] (by decide);clear aj m6
 have al:=ak.oz [1,21,20]
 refine⟨_,rfl,?_⟩;intro Y U
 refine gz hK2 U (.lenZ rfl U94<|.moveZ rfl<|.lenZ rfl U94<|.neqZ rfl rfl<|.pickF rfl rfl<|.nil) fun Y U =>?_
 refine bc U 19 ?_ ?_
 ·
  intro ac U;try simp only [QQ,Qax] at ac
  have hp0:¬ (lr h fl).length=h.length:=by have:=ac;first|omega|(simp at this;omega)|(simp at this;exact this)|simp_all
  refine wct U ?_
  replace U:=U.oz [1,2,4,10,19]
  refine la U (.assign rfl .nil) fun Y U =>?_
  refine rt1 U ?_
  exact⟨_,rfl,iff_of_false (by simp) (fun h9=>hp0 h9.2.1),al.only [1]⟩
 intro ac U;try simp only [QQ,Qax] at ac
 have hp1:(lr h fl).length=h.length:=by have:=ac;first|omega|(simp at this;omega)|(simp at this;exact this)|simp_all
 refine wcf U ?_
 refine zss (hK1 _ _ ?_)
 refine wsk fun K3 hK3 =>?_
 replace U:=U.oz [1,2,4,10,19]
 refine la U (.move rfl<|.len rfl U94<|.move rfl .nil) fun Y U =>?_
 refine wp_block ?_
 refine wp_loop_ghost (fun g a w => ∃ (k gP:Nat),k≤h.length∧g=h.length - k∧(∀ j,j<k→(h.getD j v0).1≤mk∧((h.getD j v0).2.length:Int)=sz)∧Has 40 [(2,.pointer (some ⟨gP,0,none⟩)),(20,.slice p h.length c),(21,.int .i64 h.length),(22,.int .i64 k)] a∧MemOk X w0 [(1,.dat (.slice p h.length c) (.l 2 (h.map itD))),(2,.box gP 39 [.int .i64 vo,.int .i64 ch,.int .i64 cn,.int .i64 sz,.int .i64 mk,.int .i64 fl,vH])] w) (h.length) ?_ ?_
 · exact⟨0,_,Nat.zero_le _,rfl,fun j hj=>by omega,U.only [2,20,21,22],al.ren [(1,1),(2,20)] (by decide)⟩
 clear U al
 rintro g Y aD ⟨k,gP,hkl,hg,hp,U,ao⟩
 refine la U (.lss rfl rfl .nil) fun Y U =>?_
 refine wsk fun K4 hK4 =>?_
 refine bc U 23 ?_ ?_
 ·
  intro ad U;try simp only [QQ,Qax] at ad
  have hk:k<h.length:=by have:=ad;first|omega|(simp at this;omega)
  obtain⟨⟨xs,xd⟩,hes⟩:∃ e,h[k]? = some e:=⟨_,List.getElem?_eq_getElem hk⟩
  have hx9:h.getD k v0=(xs,xd):=by rw[List.getD,hes];rfl
  refine wct U ?_
  refine zss (hK4 _ _ ?_)
  refine wsk fun K5 hK5 =>?_
  refine wp_block ?_
  refine zsr fun K6 hK6 =>?_
  obtain⟨aE,aF,ax,ap,aq,ar,av⟩:=ao.openR (i:=1) rfl (k) (r:=[.v (.int .i64 xs),.ns .u8 xd]) (lm hes) 100 rfl
  revert U
  cases ap;clear ao ar
  rcases aq with _|⟨ae,_|⟨aa,_|_⟩⟩
  obtain rfl:=ae.v_out
  clear ae
  obtain⟨aG,aH,au,ay⟩:=aa.ns_shape;subst au
  intro U
  have aw:=av.dat 101 rfl (aa.cast (fun _ h=>(lf rfl h)));clear av aa
  refine k9 U (.c rfl (fun _ h_=>li h_ rfl rfl U94 lN (k) rfl hk)<|.loadCR aw (i:=100) rfl rfl nf rfl lN .nil) fun Y U =>?_
  refine plz (lc U aw 102 oc rfl fun aI Y aJ U az _ _ =>?_)
  refine plz (stw U az 102 lN fun aK ai _ =>?_)
  refine znl (hK6 _ _ ?_)
  refine zsr fun K7 hK7 =>?_
  refine k9 U (.fa 0 rfl nf<|.lb ai 102 U2 rfl rfl rfl<|.fa 4 rfl U39<|.lb ai 2 U2 rfl rfl rfl<|.gtr rfl rfl<|.move rfl .nil) fun Y U =>?_
  refine bc U 31 ?_ ?_
  ·
   intro ag U;try simp only [QQ,Qax] at ag
   have hgt:mk<xs:=by have:=ag;first|omega|(simp at this;omega)|(simp at this;exact this)|simp_all
   refine gz hK7 U (.sk<|.sk<|.sk<|.sk<|.sk<|.sk<|.pickT rfl rfl<|.nil) fun Y U =>?_
   refine wct U ?_
   replace U:=U.oz [2,20,21,22,23,31,38]
   refine la U (.assign rfl .nil) fun Y U =>?_
   refine rt1 U ?_
   exact⟨_,rfl,iff_of_false (by simp) (fun h9=>by have:=(h9.2.2 k hk).1;rw[hx9] at this;dsimp only at this;omega),ai.only [1]⟩
  intro ag U;try simp only [QQ,Qax] at ag
  have hle:xs≤mk:=by have:=ag;first|omega|(simp at this;omega)|(simp at this;exact this)|simp_all
  refine gz hK7 U (.faZ 1 rfl nf<|.loadB1Z ai (i:=102) rfl rfl rfl U22 rfl<|.lenZ rfl U22<|.faZ 3 rfl U39<|.loadB1Z ai (i:=2) rfl rfl rfl U3 rfl<|.neqZ rfl rfl<|.pickF rfl rfl<|.nil) fun Y U =>?_
  refine bc U 38 ?_ ?_
  ·
   intro ah U;try simp only [QQ,Qax] at ah
   have hs0:¬ (xd.length:Int)=sz:=by have:=ah;first|omega|(simp at this;omega)|(simp at this;exact this)|simp_all
   refine wct U ?_
   replace U:=U.oz [2,20,21,22,23,31,38]
   refine la U (.assign rfl .nil) fun Y U =>?_
   refine rt1 U ?_
   exact⟨_,rfl,iff_of_false (by simp) (fun h9=>by have:=(h9.2.2 k hk).2;rw[hx9] at this;exact hs0 this),ai.only [1]⟩
  intro ah U;try simp only [QQ,Qax] at ah
  have hsz:(xd.length:Int)=sz:=by have:=ah;first|omega|(simp at this;omega)|(simp at this;exact this)|simp_all
  refine wcf U ?_
  refine zss (hK5 _ _ ?_)
  replace U:=U.oz [2,20,21,22,23,31,38]
  refine wp_region_lit ?_
  refine k9 U (.inc (k+1)<|.move rfl .nil) fun Y U =>?_
  refine wpList_nil ?_
  show ∃ n',n'<_∧_
  exact⟨h.length - (k+1),by omega,k+1,_,by omega,rfl,fun j hj=>(Nat.lt_or_ge j k).elim (hp j) (fun h9=>by rw[show j=k by omega,hx9];exact⟨hle,hsz⟩),U.only [2,20,21,22],ai.only [1,2]⟩
 intro ad U;try simp only [QQ,Qax] at ad
 revert U
 obtain rfl:k=h.length:=by have:=ad;first|omega|(simp at this;omega)
 intro U
 refine wcf U ?_
 refine wp_exit ?_
 refine hK3 _ _ ?_
 refine la U (.assign rfl .nil) fun Y U =>?_
 refine rt1 U ?_
 exact⟨_,rfl,iff_of_true rfl ⟨hrp,hp1,hp⟩,ao.only [1]⟩
theorem nS(X:Cx)(vo ch cn sz mk fl:Int)(H:List (List Ver))(p:Option Addr)(nn c:Nat)(w0:World)(hl:H.length≤1000000)(hok:vr H)(m0:MemOk X w0 [(1,.dat (.slice p nn c) (.l 1 (H.map hD)))] w0) :
   Calls Tryz.prog 23 #[.agg #[.int .i64 vo,.int .i64 ch,.int .i64 cn,.int .i64 sz,.int .i64 mk,.int .i64 fl,.slice p nn c]] w0 fun e w' => ∃ b:Bool,e=.returned (.bool b)∧(b=true↔xi vo ch cn sz mk fl H)∧MemOk X w0 [(1,.dat (.slice p nn c) (.l 1 (H.map hD)))] w':=by
 obtain rfl:=nX (m0.rd (i:=1) rfl)
 refine mp Tryz.func23 rfl Tryz.ntmps23 fun Y U =>?_
 refine zsr fun K0 hK0 =>?_
 refine plz (ly U m0 20 (cs:=[_,_,_,_,_,_,_]) rfl rfl rfl fun g1 Y w2 U m2 _ _ =>?_)
 refine gz hK0 U (.assign rfl .nil) fun Y U =>?_
 refine wsk fun K1 hK1 =>?_
 refine zsr fun K2 hK2 =>?_
 refine k9 U (.loadBR m2 (i:=20) rfl rfl U39 rfl lH (by simp) (by dsimp only [List.drop,List.take] <;> rfl) .nil) fun Y U =>?_
 refine plz (ecb U Tryz.func52 rfl m2 (nK _ _ _ _ _ _ _ _) fun Y w6 U m7 =>?_)
 refine plz (ecl U Tryz.func45 rfl (sT _ _ _ _ _) ?_)
 rintro e w9 ⟨bs9,rfl,hbs,hb9⟩
 have ax:=m7.later hb9
 refine⟨_,rfl,?_⟩;intro Y U
 refine k9 U (.not rfl<|.move rfl .nil) fun Y U =>?_
 refine bc U 9 ?_ ?_
 ·
  intro ad U;try simp only [QQ,Qax] at ad
  have hs0:¬ nW vo ch cn sz:=fun h9=>by have:=hbs.2 h9;have h8:=ad;simp_all
  refine gz hK2 U (.sk<|.sk<|.sk<|.sk<|.pickT rfl rfl<|.move rfl<|.sk<|.sk<|.sk<|.sk<|.sk<|.sk<|.pickT rfl rfl<|.move rfl<|.sk<|.sk<|.sk<|.sk<|.sk<|.sk<|.pickT rfl rfl<|.nil) fun Y U =>?_
  refine wct U ?_
  replace U:=U.oz [1,2,9,15,23,30]
  refine la U (.assign rfl .nil) fun Y U =>?_
  refine rt1 U ?_
  exact⟨_,rfl,iff_of_false (by simp) (fun h9=>hs0 h9.1),ax.only [1]⟩
 intro ad U;try simp only [QQ,Qax] at ad
 have hs1:nW vo ch cn sz:=hbs.1 (by have h8:=ad;simpa using h8)
 refine k9 U (.faZ 4 rfl U39<|.loadB1Z ax (i:=20) rfl rfl rfl U2 rfl .nil) fun Y U =>?_
 refine stz U (ecb U Tryz.func46 rfl ax (mZ _ _ _ _) fun Y aG U aw =>?_)
 refine k9 U (.notZ rfl<|.pickF rfl rfl<|.move rfl .nil) fun Y U =>?_
 refine bc U 15 ?_ ?_
 ·
  intro ae U;try simp only [QQ,Qax] at ae
  have ht0:¬ (0≤mk∧mk≤1099511627776):=by have:=ae;first|omega|(simp at this;omega)|(simp at this;exact this)|simp_all
  refine gz hK2 U (.sk<|.sk<|.sk<|.sk<|.sk<|.sk<|.pickT rfl rfl<|.move rfl<|.sk<|.sk<|.sk<|.sk<|.sk<|.sk<|.pickT rfl rfl<|.nil) fun Y U =>?_
  refine wct U ?_
  replace U:=U.oz [1,2,9,15,23,30]
  refine la U (.assign rfl .nil) fun Y U =>?_
  refine rt1 U ?_
  exact⟨_,rfl,iff_of_false (by simp) (fun h9=>ht0 h9.2.1),aw.only [1]⟩
 intro ae U;try simp only [QQ,Qax] at ae
 have ht1:0≤mk∧mk≤1099511627776:=by have:=ae;first|omega|(simp at this;omega)|(simp at this;exact this)|simp_all
 refine k9 U (.faZ 5 rfl U39<|.loadB1Z aw (i:=20) rfl rfl rfl U2 rfl<|.faZ 4 rfl U39<|.loadB1Z aw (i:=20) rfl rfl rfl U2 rfl .nil) fun Y U =>?_
 refine stz U (ecb U Tryz.func46 rfl aw (mZ _ _ _ _) fun Y aH U ak =>?_)
 refine k9 U (.notZ rfl<|.pickF rfl rfl<|.move rfl .nil) fun Y U =>?_
 refine bc U 23 ?_ ?_
 ·
  intro ag U;try simp only [QQ,Qax] at ag
  have hf0:¬ (0≤fl∧fl≤mk):=by have:=ag;first|omega|(simp at this;omega)|(simp at this;exact this)|simp_all
  refine gz hK2 U (.sk<|.sk<|.sk<|.sk<|.sk<|.sk<|.pickT rfl rfl<|.nil) fun Y U =>?_
  refine wct U ?_
  replace U:=U.oz [1,2,9,15,23,30]
  refine la U (.assign rfl .nil) fun Y U =>?_
  refine rt1 U ?_
  exact⟨_,rfl,iff_of_false (by simp) (fun h9=>hf0 h9.2.2.1),ak.only [1]⟩
 intro ag U;try simp only [QQ,Qax] at ag
 have hf1:0≤fl∧fl≤mk:=by have:=ag;first|omega|(simp at this;omega)|(simp at this;exact this)|simp_all
 refine gz hK2 U (.faZ 6 rfl U39<|.loadB1Z ak (i:=20) rfl rfl rfl U37 rfl<|.lenZ rfl U37<|.faZ 2 rfl U39<|.loadB1Z ak (i:=20) rfl rfl rfl U3 rfl<|.neqZ rfl rfl<|.pickF rfl rfl<|.nil) fun Y U =>?_
 refine bc U 30 ?_ ?_
 ·
  intro ah U;try simp only [QQ,Qax] at ah
  have hn0:¬ (H.length:Int)=cn:=by have:=ah;first|omega|(simp at this;omega)|(simp at this;exact this)|simp_all
  refine wct U ?_
  replace U:=U.oz [1,2,9,15,23,30]
  refine la U (.assign rfl .nil) fun Y U =>?_
  refine rt1 U ?_
  exact⟨_,rfl,iff_of_false (by simp) (fun h9=>hn0 h9.2.2.2.1),ak.only [1]⟩
 intro ah U;try simp only [QQ,Qax] at ah
 have hn1:(H.length:Int)=cn:=by have:=ah;first|omega|(simp at this;omega)|(simp at this;exact this)|simp_all
 refine wcf U ?_
 refine zss (hK1 _ _ ?_)
 refine wsk fun K3 hK3 =>?_
 replace U:=U.oz [1,2,9,15,23,30]
 refine la U (.fa 6 rfl U39<|.lb ak 20 U37 rfl rfl rfl<|.len rfl U37<|.move rfl .nil) fun Y U =>?_
 refine wp_block ?_
 refine wp_loop_ghost (fun g a w => ∃ (k gP:Nat),k≤H.length∧g=H.length - k∧(∀ j,j<k→HOk sz mk fl (H.getD j []))∧Has 43 [(1,.pointer (some ⟨gP,0,none⟩)),(32,.slice p H.length c),(33,.int .i64 H.length),(34,.int .i64 k)] a∧MemOk X w0 [(1,.dat (.slice p H.length c) (.l 1 (H.map hD))),(2,.box gP 39 [.int .i64 vo,.int .i64 ch,.int .i64 cn,.int .i64 sz,.int .i64 mk,.int .i64 fl,.slice p H.length c])] w) (H.length) ?_ ?_
 · exact⟨0,_,Nat.zero_le _,rfl,fun j hj=>by omega,U.only [1,32,33,34],ak.ren [(1,1),(2,20)] (by decide)⟩
 clear U ak
 rintro g Y aI ⟨k,gP,hkl,hg,hp,U,ay⟩
 refine la U (.lss rfl rfl .nil) fun Y U =>?_
 refine wsk fun K4 hK4 =>?_
 refine bc U 35 ?_ ?_
 ·
  intro ab U;try simp only [QQ,Qax] at ab
  have hk:k<H.length:=by have:=ab;first|omega|(simp at this;omega)
  obtain⟨h9,hes⟩:∃ e,H[k]? = some e:=⟨_,List.getElem?_eq_getElem hk⟩
  have hx9:H.getD k []=h9:=by rw[List.getD,hes];rfl
  have hh9:=hok _ (List.mem_of_getElem? hes)
  refine wct U ?_
  refine zss (hK4 _ _ ?_)
  refine wsk fun K5 hK5 =>?_
  refine wp_block ?_
  refine zsr fun K6 hK6 =>?_
  obtain⟨aB,aC,az,al,ao,ap,aq⟩:=ay.openR (i:=1) rfl (k) (r:=[.l 2 (h9.map itD)]) (mS hes) 100 rfl
  revert U
  cases al;clear ay ap
  rcases ao with _|⟨aa,_|_⟩
  obtain⟨aD,aE,ar,aA⟩:=aa.l_shape;subst ar
  intro U
  have ai:=aq.dat 101 rfl (aa.cast (fun _ h=>(lf rfl h)));clear aq aa
  refine gz hK6 U (.c rfl (fun _ h_=>li h_ rfl rfl U37 mJ (k) rfl hk)<|.loadC0 ai (i:=100) rfl rfl U94 rfl<|.assign rfl<|.nil) fun Y U =>?_
  refine zsr fun K7 hK7 =>?_
  refine k9 U (.loadBR ai (i:=2) rfl rfl U39 rfl lH (by simp) (by dsimp only [List.drop,List.take] <;> rfl)<|.move rfl .nil) fun Y U =>?_
  refine plz (ecl U Tryz.func65 rfl (r9 _ vo ch cn sz mk fl _ h9 _ _ _ _ hh9.1 hh9.2 (ai.into [(1,101)] (by decide) rfl)) ?_)
  rintro e aF ⟨bh9,rfl,hbh,aj⟩
  have au:=ai.back aj [(101,1)] (by decide);clear aj ai
  have av:=au.oz [101,1,2,100]
  refine⟨_,rfl,?_⟩;intro Y U
  refine gz hK7 U (.not rfl .nil) fun Y U =>?_
  refine bc U 41 ?_ ?_
  ·
   intro ac U;try simp only [QQ,Qax] at ac
   have hb0:¬ HOk sz mk fl h9:=fun h7=>by have:=hbh.2 h7;have h8:=ac;simp_all
   refine wct U ?_
   replace U:=U.oz [1,32,33,34,35,41]
   refine la U (.assign rfl .nil) fun Y U =>?_
   refine rt1 U ?_
   exact⟨_,rfl,iff_of_false (by simp) (fun h7=>by have:=h7.2.2.2.2 k hk;rw[hx9] at this;exact hb0 this),av.only [1]⟩
  intro ac U;try simp only [QQ,Qax] at ac
  have hbt:bh9=true:=by have h8:=ac;simpa using h8
  refine wcf U ?_
  refine zss (hK5 _ _ ?_)
  replace U:=U.oz [1,32,33,34,35,41]
  refine wp_region_lit ?_
  refine k9 U (.inc (k+1)<|.move rfl .nil) fun Y U =>?_
  refine wpList_nil ?_
  show ∃ n',n'<_∧_
  exact⟨H.length - (k+1),by omega,k+1,_,by omega,rfl,fun j hj=>(Nat.lt_or_ge j k).elim (hp j) (fun h8=>by rw[show j=k by omega,hx9];exact hbh.1 hbt),U.only [1,32,33,34],av.only [1,2]⟩
 intro ab U;try simp only [QQ,Qax] at ab
 revert U
 obtain rfl:k=H.length:=by have:=ab;first|omega|(simp at this;omega)
 intro U
 refine wcf U ?_
 refine wp_exit ?_
 refine hK3 _ _ ?_
 refine la U (.assign rfl .nil) fun Y U =>?_
 refine rt1 U ?_
 exact⟨_,rfl,iff_of_true rfl ⟨hs1,ht1,hf1,hn1,hp⟩,ay.only [1]⟩
theorem vW{X:Cx}(h:List Ver)(t:Int)(p:Option Addr)(nn c:Nat)(w0:World)(hl:h.length≤1000000)(hok:∀ v∈h,v.2.length≤1000000)(hr:Rise h)(hA:atF h t=none)(m0:MemOk X w0 [(1,.dat (.slice p nn c) (.l 2 (h.map itD)))] w0) :
   Calls Tryz.prog 79 #[.slice p nn c,.int .i64 t] w0 fun e w'=>e=.returned (.tuple #[.slice none 0 0,.bool false])∧MemOk X w0 [(1,.dat (.slice p nn c) (.l 2 (h.map itD)))] w':=by
 refine(zy X h t p nn c w0 hl hok hr m0).mono fun e w' h9 =>?_
 rcases h9 with h9|⟨d,p9,c9,h1,h2⟩
 · exact h9.2
 rw[hA] at h1;cases h1
theorem vX{X:Cx}(h:List Ver)(t:Int)(p:Option Addr)(nn c:Nat)(w0:World)(hl:h.length≤1000000)(hok:∀ v∈h,v.2.length≤1000000)(hr:Rise h){d:List Int}(hA:atF h t=some d)(m0:MemOk X w0 [(1,.dat (.slice p nn c) (.l 2 (h.map itD)))] w0) :
   Calls Tryz.prog 79 #[.slice p nn c,.int .i64 t] w0 fun e w' => ∃ (p9:Option Addr) (c9:Nat),e=.returned (.tuple #[.slice p9 d.length c9,.bool true])∧MemOk X w0 [(1,.dat (.slice p nn c) (.l 2 (h.map itD))),(9,.dat (.slice p9 d.length c9) (.ns .u8 d))] w':=by
 refine(zy X h t p nn c w0 hl hok hr m0).mono fun e w' h9 =>?_
 rcases h9 with h9|⟨d2,p9,c9,h1,h2⟩
 · rw[hA] at h9;cases h9.1
 rw[hA] at h1;injection h1 with h1;subst h1;exact⟨p9,c9,h2⟩
theorem tC(X:Cx)(vo ch cn sz mk fl:Int)(H:List (List Ver))(i:Nat)(t:Int)(p:Option Addr)(c:Nat)(w0:World)(hl:H.length≤1000000)(hok:vr H)(hri:∀ h∈H,Rise h)(hi:i<H.length)(hcn:(i:Int)<cn)(hsz:0≤sz∧sz≤32)(hf:fl≤t)(hm:t≤mk){d:List Int}(hA:atF (H.getD i []) t=some d)(m0:MemOk X w0 [(1,.dat (.slice p H.length c) (.l 1 (H.map hD)))] w0) :
   Calls Tryz.prog 33 #[.agg #[.int .i64 vo,.int .i64 ch,.int .i64 cn,.int .i64 sz,.int .i64 mk,.int .i64 fl,.slice p H.length c],.int .i64 i,.int .i64 t] w0 fun e w' => ∃ (p9:Option Addr) (c9:Nat),e=.returned (.tuple #[.slice p9 ((atF (H.getD i []) t).getD (List.replicate sz.toNat 0)).length c9,.int .i64 0])∧MemOk X w0 [(1,.dat (.slice p H.length c) (.l 1 (H.map hD))),(9,.dat (.slice p9 ((atF (H.getD i []) t).getD (List.replicate sz.toNat 0)).length c9) (.ns .u8 ((atF (H.getD i []) t).getD (List.replicate sz.toNat 0))))] w':=by
 refine qr Tryz.func33 rfl Tryz.ntmps33 fun Y U =>?_
 obtain⟨h9,hes⟩:∃ e,H[i]? = some e:=⟨_,List.getElem?_eq_getElem hi⟩
 have hx9:H.getD i []=h9:=by rw[List.getD,hes];rfl
 have hh9:=hok _ (List.mem_of_getElem? hes)
 have hrs:=hri _ (List.mem_of_getElem? hes)
 rw[hx9] at hA ⊢
 refine zsr fun K0 hK0 =>?_
 refine plz (ly U m0 20 (cs:=[_,_,_,_,_,_,_]) rfl rfl rfl fun g1 Y w2 U m2 _ _ =>?_)
 refine gz hK0 U (.assign rfl<|.assign rfl<|.nil) fun Y U =>?_
 refine wsk fun K1 hK1 =>?_
 refine zsr fun K2 hK2 =>?_
 refine k9 U (.move rfl<|.lss rfl rfl<|.move rfl .nil) fun Y U =>?_
 refine bc U 12 ?_ ?_
 · intro hb _;exact absurd hb (by rw[decide_eq_true_eq];omega)
 clear U;intro _ U
 refine k9 U (.moveZ rfl<|.faZ 2 rfl U39<|.loadB1Z m2 (i:=20) rfl rfl rfl U3 rfl<|.geqZ rfl rfl<|.pickF rfl rfl<|.move rfl .nil) fun Y U =>?_
 refine bc U 18 ?_ ?_
 · intro hb _;exact absurd hb (by rw[decide_eq_true_eq];omega)
 clear U;intro _ U
 refine gz hK2 U (.moveZ rfl<|.faZ 6 rfl U39<|.loadB1Z m2 (i:=20) rfl rfl rfl U37 rfl<|.lenZ rfl U37<|.geqZ rfl rfl<|.pickF rfl rfl<|.nil) fun Y U =>?_
 refine bc U 24 ?_ ?_
 · intro hb _;exact absurd hb (by rw[decide_eq_true_eq];omega)
 clear U;intro _ U
 refine wcf U ?_
 refine zss (hK1 _ _ ?_)
 refine wsk fun K3 hK3 =>?_
 replace U:=U.oz [1,2,3,6,7]
 refine la U (.move rfl<|.fa 5 rfl U39<|.lb m2 20 U2 rfl rfl rfl<|.lss rfl rfl .nil) fun Y U =>?_
 refine bc U 28 ?_ ?_
 · intro hb _;exact absurd hb (by rw[decide_eq_true_eq];omega)
 clear U;intro _ U
 refine wcf U ?_
 refine zss (hK3 _ _ ?_)
 refine wsk fun K4 hK4 =>?_
 refine la U (.move rfl<|.fa 4 rfl U39<|.lb m2 20 U2 rfl rfl rfl<|.gtr rfl rfl .nil) fun Y U =>?_
 refine bc U 32 ?_ ?_
 · intro hb _;exact absurd hb (by rw[decide_eq_true_eq];omega)
 clear U;intro _ U
 refine wcf U ?_
 refine zss (hK4 _ _ ?_)
 refine wsk fun K5 hK5 =>?_
 replace U:=U.oz [1,2,3,6,7]
 refine zsr fun K6 hK6 =>?_
 refine k9 U (.fa 6 rfl U39<|.lb m2 20 U37 rfl rfl rfl<|.move rfl .nil) fun Y U =>?_
 obtain⟨ap,aq,ak,ad,ae,ag,aj⟩:=m2.openR (i:=1) rfl (i) (r:=[.l 2 (h9.map itD)]) (mS hes) 21 rfl
 revert U
 cases ad;clear m2 ag
 rcases ae with _|⟨aa,_|_⟩
 obtain⟨ar,au,ah,al⟩:=aa.l_shape;subst ah
 intro U
 have ac:=aj.dat 22 rfl (aa.cast (fun _ h=>(lf rfl h)));clear aj aa
 refine k9 U (.c rfl (fun _ h_=>li h_ rfl rfl U37 mJ (i) rfl hi)<|.loadC0 ac (i:=21) rfl rfl U94 rfl<|.move rfl .nil) fun Y U =>?_
 refine plz (ecl U Tryz.func79 rfl (vX h9 t _ _ _ _ hh9.1 hh9.2 hrs hA (ac.into [(1,22)] (by decide) rfl)) ?_)
 rintro e av ⟨aw,ax,rfl,ab⟩
 have ai:=ac.back ab [(22,1),(23,9)] (by decide);clear ab ac
 have ao:=ai.oz [22,23,1,20,21]
 refine⟨_,rfl,?_⟩;intro Y U
 refine gz hK6 U (.move rfl<|.extract rfl rfl<|.extract rfl rfl<|.assign rfl<|.assign rfl<|.nil) fun Y U =>?_
 replace U:=U.oz [3,6,7,8,9]
 refine la U (.move rfl .nil) fun Y U =>?_
 refine wct U ?_
 refine la U (.move rfl<|.assign rfl<|.assign rfl .nil) fun Y U =>?_
 refine rt2 U ?_
 rw[hA]
 exact⟨_,_,rfl,ao.ren [(1,1),(9,23)] (by decide)⟩
theorem tD(X:Cx)(vo ch cn sz mk fl:Int)(H:List (List Ver))(i:Nat)(t:Int)(p:Option Addr)(c:Nat)(w0:World)(hl:H.length≤1000000)(hok:vr H)(hri:∀ h∈H,Rise h)(hi:i<H.length)(hcn:(i:Int)<cn)(hsz:0≤sz∧sz≤32)(hf:fl≤t)(hm:t≤mk)(hA:atF (H.getD i []) t=none)(m0:MemOk X w0 [(1,.dat (.slice p H.length c) (.l 1 (H.map hD)))] w0) :
   Calls Tryz.prog 33 #[.agg #[.int .i64 vo,.int .i64 ch,.int .i64 cn,.int .i64 sz,.int .i64 mk,.int .i64 fl,.slice p H.length c],.int .i64 i,.int .i64 t] w0 fun e w' => ∃ (p9:Option Addr) (c9:Nat),e=.returned (.tuple #[.slice p9 ((atF (H.getD i []) t).getD (List.replicate sz.toNat 0)).length c9,.int .i64 0])∧MemOk X w0 [(1,.dat (.slice p H.length c) (.l 1 (H.map hD))),(9,.dat (.slice p9 ((atF (H.getD i []) t).getD (List.replicate sz.toNat 0)).length c9) (.ns .u8 ((atF (H.getD i []) t).getD (List.replicate sz.toNat 0))))] w':=by
 refine qr Tryz.func33 rfl Tryz.ntmps33 fun Y U =>?_
 obtain⟨h9,hes⟩:∃ e,H[i]? = some e:=⟨_,List.getElem?_eq_getElem hi⟩
 have hx9:H.getD i []=h9:=by rw[List.getD,hes];rfl
 have hh9:=hok _ (List.mem_of_getElem? hes)
 have hrs:=hri _ (List.mem_of_getElem? hes)
 rw[hx9] at hA ⊢
 refine zsr fun K0 hK0 =>?_
 refine plz (ly U m0 20 (cs:=[_,_,_,_,_,_,_]) rfl rfl rfl fun g1 Y w2 U m2 _ _ =>?_)
 refine gz hK0 U (.assign rfl<|.assign rfl<|.nil) fun Y U =>?_
 refine wsk fun K1 hK1 =>?_
 refine zsr fun K2 hK2 =>?_
 refine k9 U (.move rfl<|.lss rfl rfl<|.move rfl .nil) fun Y U =>?_
 refine bc U 12 ?_ ?_
 · intro hb _;exact absurd hb (by rw[decide_eq_true_eq];omega)
 clear U;intro _ U
 refine k9 U (.moveZ rfl<|.faZ 2 rfl U39<|.loadB1Z m2 (i:=20) rfl rfl rfl U3 rfl<|.geqZ rfl rfl<|.pickF rfl rfl<|.move rfl .nil) fun Y U =>?_
 refine bc U 18 ?_ ?_
 · intro hb _;exact absurd hb (by rw[decide_eq_true_eq];omega)
 clear U;intro _ U
 refine gz hK2 U (.moveZ rfl<|.faZ 6 rfl U39<|.loadB1Z m2 (i:=20) rfl rfl rfl U37 rfl<|.lenZ rfl U37<|.geqZ rfl rfl<|.pickF rfl rfl<|.nil) fun Y U =>?_
 refine bc U 24 ?_ ?_
 · intro hb _;exact absurd hb (by rw[decide_eq_true_eq];omega)
 clear U;intro _ U
 refine wcf U ?_
 refine zss (hK1 _ _ ?_)
 refine wsk fun K3 hK3 =>?_
 replace U:=U.oz [1,2,3,6,7]
 refine la U (.move rfl<|.fa 5 rfl U39<|.lb m2 20 U2 rfl rfl rfl<|.lss rfl rfl .nil) fun Y U =>?_
 refine bc U 28 ?_ ?_
 · intro hb _;exact absurd hb (by rw[decide_eq_true_eq];omega)
 clear U;intro _ U
 refine wcf U ?_
 refine zss (hK3 _ _ ?_)
 refine wsk fun K4 hK4 =>?_
 refine la U (.move rfl<|.fa 4 rfl U39<|.lb m2 20 U2 rfl rfl rfl<|.gtr rfl rfl .nil) fun Y U =>?_
 refine bc U 32 ?_ ?_
 · intro hb _;exact absurd hb (by rw[decide_eq_true_eq];omega)
 clear U;intro _ U
 refine wcf U ?_
 refine zss (hK4 _ _ ?_)
 refine wsk fun K5 hK5 =>?_
 replace U:=U.oz [1,2,3,6,7]
 refine zsr fun K6 hK6 =>?_
 refine k9 U (.fa 6 rfl U39<|.lb m2 20 U37 rfl rfl rfl<|.move rfl .nil) fun Y U =>?_
 obtain⟨ar,au,al,ad,ae,ag,aj⟩:=m2.openR (i:=1) rfl (i) (r:=[.l 2 (h9.map itD)]) (mS hes) 21 rfl
 revert U
 cases ad;clear m2 ag
 rcases ae with _|⟨aa,_|_⟩
 obtain⟨av,aw,ah,ao⟩:=aa.l_shape;subst ah
 intro U
 have ac:=aj.dat 22 rfl (aa.cast (fun _ h=>(lf rfl h)));clear aj aa
 refine k9 U (.c rfl (fun _ h_=>li h_ rfl rfl U37 mJ (i) rfl hi)<|.loadC0 ac (i:=21) rfl rfl U94 rfl<|.move rfl .nil) fun Y U =>?_
 refine plz (ecl U Tryz.func79 rfl (vW h9 t _ _ _ _ hh9.1 hh9.2 hrs hA (ac.into [(1,22)] (by decide) rfl)) ?_)
 rintro e ax ⟨rfl,ab⟩
 have ai:=ac.back ab [(22,1)] (by decide);clear ab ac
 have ak:=ai.oz [22,1,20,21]
 refine⟨_,rfl,?_⟩;intro Y U
 refine gz hK6 U (.move rfl<|.extract rfl rfl<|.extract rfl rfl<|.assign rfl<|.assign rfl<|.nil) fun Y U =>?_
 replace U:=U.oz [3,6,7,8,9]
 refine la U (.move rfl .nil) fun Y U =>?_
 refine wcf U ?_
 refine zss (hK5 _ _ ?_)
 refine zsr fun K7 hK7 =>?_
 refine k9 U (.fa 3 rfl U39<|.lb ak 20 U3 rfl rfl rfl<|.c rfl (fun _ h_=>oK h_ rfl rfl (r:=sz) (by omega))<|.c rfl (fun _ h_=>qN h_ rfl rfl (r:=sz) (by omega)) .nil) fun Y U =>?_
 refine plz (xG U ak 23 (sz.toNat) rfl rfl (by omega) (by omega) U22 lJ (by decide) (by omega) rfl fun ay az Y aA U ap =>?_)
 refine gz hK7 U (.assign rfl<|.assign rfl<|.nil) fun Y U =>?_
 refine rt2 U ?_
 have aq:=ap.freezeN 23 rfl
 have hE:sz.toNat=(List.replicate sz.toNat (0:Int)).length:=List.length_replicate.symm
 rw[hA]
 simp only [Option.getD_none]
 rw[← hE]
 exact⟨_,_,rfl,aq.ren [(1,1),(9,23)] (by decide)⟩
theorem vT(vo ch cn sz mk fl:Int)(i t:Int)(p:Option Addr)(nn c:Nat)(w0:World)(hi:i<0∨cn≤i∨(nn:Int)≤i) :
   Calls Tryz.prog 33 #[.agg #[.int .i64 vo,.int .i64 ch,.int .i64 cn,.int .i64 sz,.int .i64 mk,.int .i64 fl,.slice p nn c],.int .i64 i,.int .i64 t] w0 fun e w'=>e=.returned (.tuple #[.slice none 0 0,.int .i64 28])∧Below w0.heap.size w0 w':=by
 refine qr Tryz.func33 rfl Tryz.ntmps33 fun Y U =>?_
 have m0:=MemOk.start (fun _=>False) w0
 refine zsr fun K0 hK0 =>?_
 refine plz (ly U m0 20 (cs:=[_,_,_,_,_,_,_]) rfl rfl rfl fun g1 Y w2 U m2 _ _ =>?_)
 refine gz hK0 U (.assign rfl<|.assign rfl<|.nil) fun Y U =>?_
 refine wsk fun K1 hK1 =>?_
 refine zsr fun K2 hK2 =>?_
 refine k9 U (.move rfl<|.lss rfl rfl<|.move rfl .nil) fun Y U =>?_
 refine bc U 12 ?_ ?_
 ·
  intro aa U;try simp only [QQ,Qax] at aa
  refine gz hK2 U (.sk<|.sk<|.sk<|.sk<|.pickT rfl rfl<|.move rfl<|.sk<|.sk<|.sk<|.sk<|.sk<|.pickT rfl rfl<|.nil) fun Y U =>?_
  refine wct U ?_
  replace U:=U.oz [1,2,3,6,7]
  refine la U (.assign rfl<|.assign rfl .nil) fun Y U =>?_
  refine rt2 U ?_
  exact⟨rfl,m2.below⟩
 intro aa U;try simp only [QQ,Qax] at aa
 have ac:=aa
 refine k9 U (.moveZ rfl<|.faZ 2 rfl U39<|.loadB1Z m2 (i:=20) rfl rfl rfl U3 rfl<|.geqZ rfl rfl<|.pickF rfl rfl<|.move rfl .nil) fun Y U =>?_
 refine bc U 18 ?_ ?_
 ·
  intro ab U;try simp only [QQ,Qax] at ab
  refine gz hK2 U (.sk<|.sk<|.sk<|.sk<|.sk<|.pickT rfl rfl<|.nil) fun Y U =>?_
  refine wct U ?_
  replace U:=U.oz [1,2,3,6,7]
  refine la U (.assign rfl<|.assign rfl .nil) fun Y U =>?_
  refine rt2 U ?_
  exact⟨rfl,m2.below⟩
 intro ab U;try simp only [QQ,Qax] at ab
 have ad:=ab
 refine gz hK2 U (.moveZ rfl<|.faZ 6 rfl U39<|.loadB1Z m2 (i:=20) rfl rfl rfl U37 rfl<|.lenZ rfl U37<|.geqZ rfl rfl<|.pickF rfl rfl<|.nil) fun Y U =>?_
 refine bc U 24 ?_ ?_
 rotate_left
 · intro hb _;exact absurd hb (by simp at *;omega)
 clear U;intro _ U
 refine wct U ?_
 replace U:=U.oz [1,2,3,6,7]
 refine la U (.assign rfl<|.assign rfl .nil) fun Y U =>?_
 refine rt2 U ?_
 exact⟨rfl,m2.below⟩
theorem vS(vo ch cn sz mk fl:Int)(i t:Int)(p:Option Addr)(nn c:Nat)(w0:World)(hi:0≤i∧i<cn∧i<nn)(hf:fl≤t)(hm:mk<t) :
   Calls Tryz.prog 33 #[.agg #[.int .i64 vo,.int .i64 ch,.int .i64 cn,.int .i64 sz,.int .i64 mk,.int .i64 fl,.slice p nn c],.int .i64 i,.int .i64 t] w0 fun e w'=>e=.returned (.tuple #[.slice none 0 0,.int .i64 32])∧Below w0.heap.size w0 w':=by
 refine qr Tryz.func33 rfl Tryz.ntmps33 fun Y U =>?_
 have m0:=MemOk.start (fun _=>False) w0
 refine zsr fun K0 hK0 =>?_
 refine plz (ly U m0 20 (cs:=[_,_,_,_,_,_,_]) rfl rfl rfl fun g1 Y w2 U m2 _ _ =>?_)
 refine gz hK0 U (.assign rfl<|.assign rfl<|.nil) fun Y U =>?_
 refine wsk fun K1 hK1 =>?_
 refine zsr fun K2 hK2 =>?_
 refine k9 U (.move rfl<|.lss rfl rfl<|.move rfl .nil) fun Y U =>?_
 refine bc U 12 ?_ ?_
 · intro hb _;exact absurd hb (by rw[decide_eq_true_eq];omega)
 clear U;intro _ U
 refine k9 U (.moveZ rfl<|.faZ 2 rfl U39<|.loadB1Z m2 (i:=20) rfl rfl rfl U3 rfl<|.geqZ rfl rfl<|.pickF rfl rfl<|.move rfl .nil) fun Y U =>?_
 refine bc U 18 ?_ ?_
 · intro hb _;exact absurd hb (by rw[decide_eq_true_eq];omega)
 clear U;intro _ U
 refine gz hK2 U (.moveZ rfl<|.faZ 6 rfl U39<|.loadB1Z m2 (i:=20) rfl rfl rfl U37 rfl<|.lenZ rfl U37<|.geqZ rfl rfl<|.pickF rfl rfl<|.nil) fun Y U =>?_
 refine bc U 24 ?_ ?_
 · intro hb _;exact absurd hb (by rw[decide_eq_true_eq];omega)
 clear U;intro _ U
 refine wcf U ?_
 refine zss (hK1 _ _ ?_)
 refine wsk fun K3 hK3 =>?_
 replace U:=U.oz [1,2,3,6,7]
 refine la U (.move rfl<|.fa 5 rfl U39<|.lb m2 20 U2 rfl rfl rfl<|.lss rfl rfl .nil) fun Y U =>?_
 refine bc U 28 ?_ ?_
 · intro hb _;exact absurd hb (by rw[decide_eq_true_eq];omega)
 clear U;intro _ U
 refine wcf U ?_
 refine zss (hK3 _ _ ?_)
 refine wsk fun K4 hK4 =>?_
 refine la U (.move rfl<|.fa 4 rfl U39<|.lb m2 20 U2 rfl rfl rfl<|.gtr rfl rfl .nil) fun Y U =>?_
 refine bc U 32 ?_ ?_
 rotate_left
 · intro hb _;exact absurd hb (by rw[decide_eq_false_iff_not,Decidable.not_not];omega)
 clear U;intro _ U
 refine wct U ?_
 replace U:=U.oz [1,2,3,6,7]
 refine la U (.assign rfl<|.assign rfl .nil) fun Y U =>?_
 refine rt2 U ?_
 exact⟨rfl,m2.below⟩
end
section
section
variable {P:Program} {n:Nat} {T:List (Nat×Value)} {a:Act} {w w0:World} {X:Cx} {M:Mm} {tt:TypeId} {pos:String} {af:Array Edge} {gd:Option (Nat×Bool)} {Q:Exit→Act→World→Prop} {K:Act→World→Prop}
theorem uC{N g l c:Nat}{S:Nat→Prop}{e:TypeId}{rows:List (List D)}{cs:List (List Value)}(h:zb N S w (.slice (some ⟨g,0,none⟩) l c) e 1 rows cs){j:Nat}{v:Value}(hc:cs[j]? = some [v]):w.cell? ⟨g,j,none⟩=some v:=by
 obtain⟨h1,h2,h3,h4,h5⟩:=h
 have hfl:∀ (cs:List (List Value)),(∀ c∈cs,c.length=1)→∀ j:Nat,cs[j]? = some [v]→cs.flatten[j]? = some v:=by
   intro cs
   induction cs with
   | nil=>intro _ j hj;simp at hj
   | cons c cs ih =>
     intro hl j hj
     have hc1:=hl c (by simp)
     match c,hc1 with
     | [x],_ =>
       rw[List.flatten_cons]
       cases j with
       | zero=>simp at hj;subst hj;rfl
       | succ j=>rw[List.getElem?_append_right (by simp)];exact ih (fun c hc=>hl c (by simp [hc])) j (by simpa using hj)
 have hv:=hfl cs (fun c hc=>(h3 c hc).1) j hc
 have:=h1.cells (g:=g) rfl j v hv
 rwa [Addr.add_lit,Nat.zero_add] at this
theorem nM(ha:Has n T a)(m:MemOk X w0 M w){d:Option Tmp}{t:TypeId}{td:TypeDesc}{x:Operand}{i g l c:Nat}{e:TypeId}{rows:List (List D)}{cs:List (List Value)}{v:Value}(hm:lk M i=some (.rowC (.slice (some ⟨g,0,none⟩) l c) e 1 rows cs))(j:Nat)(hc:cs[j]? = some [v])(hx:evT T x=some (.pointer (some ⟨g,0+j*1,none⟩)))(hu:P.underlying t=some td)(hr:td.isRow=false):Yl P a w ⟨d,.load t x,tt,pos,af,gd⟩ v:=by
 have hk:=uC (m.ok i _ hm) hc
 have hr9:w.rangeAt g j [v]:=fun q x hq=>by
   cases q with
   | zero=>simp at hq;subst hq;exact hk
   | succ q=>simp at hq
 rw[show 0+j*1=j+0 by omega] at hx
 exact oo ha hr9 (q:=0) hx rfl rfl hu hr
theorem nN(ha:Has n T a)(m:MemOk X w0 M w)(i:Nat){g l c:Nat}{t e:TypeId}{x y:Operand}{rows:List (List D)}{v:Value}{dd:D}(hm:lk M i=some (.row (.slice (some ⟨g,0,none⟩) l c) e 1 rows))(J:Nat)(hJ:J<rows.length){q':Nat}(hx:evT T x=some (.pointer (some ⟨g,q',none⟩)))(hq':q'=0+J*1)(hy:evT T y=some v)(hv:v.oneCell'=true)(hs:(P.info? t).map (·.size)=some 1)(hdd:Rd (mP X M) w v dd)
   (h:∀ w',MemOk X w0 ((i,.row (.slice (some ⟨g,0,none⟩) l c) e 1 (rows.set J [dd])) :: M) w'→K a w'):Oper.wp P ⟨none,.store t x y,tt,pos,af,gd⟩ a w K Q:=by
 have h9:Oper.wp P ⟨none,.store t x (.const (.agg #[v])),tt,pos,af,gd⟩ a w K Q:=qQ ha m i hm J hJ hx hq' (y:=.const (.agg #[v])) rfl (by simpa using hv) rfl hs (.cons hdd .nil) h
 have e1:(execOp a.eval ⟨none,.store t x y,tt,pos,af,gd⟩).run P w=(execOp a.eval ⟨none,.store t x (.const (.agg #[v])),tt,pos,af,gd⟩).run P w:=by
   have e1:v.cells=#[v]:=pk hv
   have e2:(Value.agg #[v]).cells=#[v]:=rfl
   have e3:a.eval (.const (.agg #[v]))=.agg #[v]:=rfl
   simp only [execOp,ha.ev hy,e3,ha.ev hx,Instr.storeAt,storeVar,e1,e2]
 have e4:Oper.wp P ⟨none,.store t x y,tt,pos,af,gd⟩ a w K Q=Oper.upon P ⟨none,.store t x y,tt,pos,af,gd⟩ a K Q ((execOp a.eval ⟨none,.store t x y,tt,pos,af,gd⟩).run P w):=rfl
 have e5:Oper.wp P ⟨none,.store t x (.const (.agg #[v])),tt,pos,af,gd⟩ a w K Q=Oper.upon P ⟨none,.store t x (.const (.agg #[v])),tt,pos,af,gd⟩ a K Q ((execOp a.eval ⟨none,.store t x (.const (.agg #[v])),tt,pos,af,gd⟩).run P w):=rfl
 rw[e4,e1]
 rw[e5] at h9
 exact h9
end
end
section
theorem nO {P : Program} (w : World) (d : Nat) (xs ys : Array Value) (f : Field) (fs : List Field) (hn : (f.name == "_") = false) {t o : Nat} {k k' : IntKind} (ht : f.type = t) (ho : f.offset = o) (hp : P.plainKey t = true) (hu : P.underlying t = some (.int k')) {x y : Int} (hx : xs[o]? = some (.int k x)) (hy : ys[o]? = some (.int k y)) :
   (Op.eqFields (d+1) xs ys (f :: fs)).run P w=if x == y then (Op.eqFields (d+1) xs ys fs).run P w else .ok false w:=by
 have hne : f.name ≠ "_" := by simpa using hn
 subst ht;subst ho
 rw[Op.eqFields,if_pos hne]
 simp only [Sem.run_bind,run_part_plain w hp hx,run_part_plain w hp hy,Result.andThen_ok,run_equalIn_int w d _ k k' x y hu]
 cases x == y <;> simp
theorem pG : ((Tryz.prog.fieldsOf 88).toList.map fun f => (f.name == "_", f.type, f.offset)) = [(false, 3, 0), (false, 3, 1), (false, 3, 2), (false, 3, 3)] := by kernel_rfl
theorem yC(w:World)(a1 a2 a3 a4 b1 b2 b3 b4:Int):(binOp .eql 88 (.agg #[.int .i64 a1,.int .i64 a2,.int .i64 a3,.int .i64 a4]) (.agg #[.int .i64 b1,.int .i64 b2,.int .i64 b3,.int .i64 b4])).run Tryz.prog w=.ok (.bool (a1 == b1 && (a2 == b2 && (a3 == b3 && a4 == b4)))) w:=by
 rw[run_eql_struct,run_equalIn_agg w 9999 88 _ _ (by kernel_rfl) (by kernel_rfl)]
 have hf:=pG
 generalize (Tryz.prog.fieldsOf 88).toList=L at hf
 have hL:L.length=4:=by have:=congrArg List.length hf;simpa using this
 match L,hL,hf with
 | [f1,f2,f3,f4],_,hf =>
   simp only [List.map_cons,List.map_nil,List.cons.injEq,Prod.mk.injEq,and_true] at hf
   obtain⟨⟨n1,t1,o1⟩,⟨n2,t2,o2⟩,⟨n3,t3,o3⟩,⟨n4,t4,o4⟩⟩:=hf
   rw[nO w 9998 _ _ f1 _ n1 t1 o1 (by kernel_rfl) (k':=.i64) (by kernel_rfl) rfl rfl,nO w 9998 _ _ f2 _ n2 t2 o2 (by kernel_rfl) (k':=.i64) (by kernel_rfl) rfl rfl,nO w 9998 _ _ f3 _ n3 t3 o3 (by kernel_rfl) (k':=.i64) (by kernel_rfl) rfl rfl,nO w 9998 _ _ f4 _ n4 t4 o4 (by kernel_rfl) (k':=.i64) (by kernel_rfl) rfl rfl]
   cases a1 == b1 <;> cases a2 == b2 <;> cases a3 == b3 <;> cases a4 == b4 <;> simp [Op.eqFields]
theorem zE{T:List (Nat×Value)}{n:Nat}{a:Act}{w:World}{d:Option Tmp}{x y:Operand}{t2 tt:TypeId}{pos:String}{af:Array Edge}{gd:Option (Nat×Bool)}(h:Has n T a){a1 a2 a3 a4 b1 b2 b3 b4:Int}(hx:evT T x=some (.agg #[.int .i64 a1,.int .i64 a2,.int .i64 a3,.int .i64 a4]))(hy:evT T y=some (.agg #[.int .i64 b1,.int .i64 b2,.int .i64 b3,.int .i64 b4])):Yl Tryz.prog a w ⟨d,.binOp .eql 88 x y t2,tt,pos,af,gd⟩ (.bool (a1 == b1 && (a2 == b2 && (a3 == b3 && a4 == b4)))):=by
 show(execOp _ _).run _ w=_
 have hg:=run_eqGuard_agg (P:=Tryz.prog) w .eql 88 x y #[.int .i64 a1,.int .i64 a2,.int .i64 a3,.int .i64 a4] #[.int .i64 b1,.int .i64 b2,.int .i64 b3,.int .i64 b4] (by kernel_rfl)
 simp only [execOp,h.ev hx,h.ev hy,Sem.run_bind,hg,Result.andThen_ok,yC,Sem.run_pure]
theorem wg(w:World)(a1 a2 a3 a4 b1 b2 b3 b4:Int):(binOp .neq 88 (.agg #[.int .i64 a1,.int .i64 a2,.int .i64 a3,.int .i64 a4]) (.agg #[.int .i64 b1,.int .i64 b2,.int .i64 b3,.int .i64 b4])).run Tryz.prog w=.ok (.bool (!(a1 == b1 && (a2 == b2 && (a3 == b3 && a4 == b4))))) w:=by
 rw[run_neq_struct,run_equalIn_agg w 9999 88 _ _ (by kernel_rfl) (by kernel_rfl)]
 have hf:=pG
 generalize (Tryz.prog.fieldsOf 88).toList=L at hf
 have hL:L.length=4:=by have:=congrArg List.length hf;simpa using this
 match L,hL,hf with
 | [f1,f2,f3,f4],_,hf =>
   simp only [List.map_cons,List.map_nil,List.cons.injEq,Prod.mk.injEq,and_true] at hf
   obtain⟨⟨n1,t1,o1⟩,⟨n2,t2,o2⟩,⟨n3,t3,o3⟩,⟨n4,t4,o4⟩⟩:=hf
   rw[nO w 9998 _ _ f1 _ n1 t1 o1 (by kernel_rfl) (k':=.i64) (by kernel_rfl) rfl rfl,nO w 9998 _ _ f2 _ n2 t2 o2 (by kernel_rfl) (k':=.i64) (by kernel_rfl) rfl rfl,nO w 9998 _ _ f3 _ n3 t3 o3 (by kernel_rfl) (k':=.i64) (by kernel_rfl) rfl rfl,nO w 9998 _ _ f4 _ n4 t4 o4 (by kernel_rfl) (k':=.i64) (by kernel_rfl) rfl rfl]
   cases a1 == b1 <;> cases a2 == b2 <;> cases a3 == b3 <;> cases a4 == b4 <;> simp [Op.eqFields]
theorem xk{T:List (Nat×Value)}{n:Nat}{a:Act}{w:World}{d:Option Tmp}{x y:Operand}{t2 tt:TypeId}{pos:String}{af:Array Edge}{gd:Option (Nat×Bool)}(h:Has n T a){a1 a2 a3 a4 b1 b2 b3 b4:Int}(hx:evT T x=some (.agg #[.int .i64 a1,.int .i64 a2,.int .i64 a3,.int .i64 a4]))(hy:evT T y=some (.agg #[.int .i64 b1,.int .i64 b2,.int .i64 b3,.int .i64 b4])):Yl Tryz.prog a w ⟨d,.binOp .neq 88 x y t2,tt,pos,af,gd⟩ (.bool (!(a1 == b1 && (a2 == b2 && (a3 == b3 && a4 == b4))))):=by
 show(execOp _ _).run _ w=_
 have hg:=run_eqGuard_agg (P:=Tryz.prog) w .neq 88 x y #[.int .i64 a1,.int .i64 a2,.int .i64 a3,.int .i64 a4] #[.int .i64 b1,.int .i64 b2,.int .i64 b3,.int .i64 b4] (by kernel_rfl)
 simp only [execOp,h.ev hx,h.ev hy,Sem.run_bind,hg,Result.andThen_ok,wg,Sem.run_pure]
end
end Go.Proofs.YteglmahnkfgelaaGreat.K
