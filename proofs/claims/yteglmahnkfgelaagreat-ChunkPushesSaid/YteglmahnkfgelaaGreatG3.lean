/- General laws of walks. -/
import Derived.Test.YteglmahnkfgelaaGreatG2
import Derived.Lib.SlBytesConst
import Derived.Deep.Slices
import Derived.SizedLaws
namespace Go.Proofs.YteglmahnkfgelaaGreat.K
open Go.ChangeShapes Go.WideShapes Go.ChangeAt Go.RowKit
set_option linter.unusedVariables false
set_option linter.unusedSimpArgs false
set_option maxRecDepth 100000
set_option maxHeartbeats 4000000
set_option autoImplicit true
set_option relaxedAutoImplicit true
section
theorem lf{X:Cx}{M:Mm}{i:Nat}{r:Res}(hr:r.blk=none){b:Nat}(h:mP X M b):mP X ((i,r) :: M) b:=by
 refine⟨h.1,?_⟩
 rintro⟨j,s,hj,hs⟩
 rw[lT] at hj
 split at hj
 · cases hj;rw[hr] at hs;cases hs
 exact h.2 ⟨j,s,hj,hs⟩
theorem Rd.cast{S S':Nat→Prop}{w:World}{v:Value}{d:D}(h:Rd S w v d)(hs:∀ b,S b→S' b):Rd S' w v d:=h.mono (Nat.le_refl _) (fun b _ hS=>⟨rfl,hs b hS⟩)
theorem Rd.later{S:Nat→Prop}{w w':World}{v:Value}{d:D}(h:Rd S w v d)(hb:Below w.heap.size w w'):Rd S w' v d:=h.mono hb.size (fun b hlt hS=>⟨hb.block b hlt,hS⟩)
theorem Rd.any{S:Nat→Prop}{w:World}{v:Value}{d:D}(h:Rd S w v d):Rd (fun _=>True) w v d:=h.cast (fun _ _=>trivial)
theorem qp{X:Cx}{b:Nat}(h:X.Z b):mP X [] b:=⟨h,fun⟨i,r,h,_⟩=>by cases h⟩
def cx(S:Nat→Prop)(w:World):Cx:=⟨[],fun b=>b<w.heap.size→S b⟩
theorem MemOk.below{S:Nat→Prop}{w0 w w1:World}{M:Mm}(m:MemOk (cx S w1) w0 M w):Below w0.heap.size w0 w:=⟨m.keep.1,m.keep.2.1,m.keep.2.2.1,m.keep.2.2.2.1,fun k hk=>m.keep.2.2.2.2 k hk (by simp [cx])⟩
theorem MemOk.start(S:Nat→Prop)(w:World):MemOk (cx S w) w [] w:=⟨Keep.refl _ _,fun b hb hlt=>absurd hlt (by omega),fun i r h=>(by cases h),fun i j r s b h=>(by cases h)⟩
section
variable {P:Program} {ops:Array Oper} {Q:Exit→Act→World→Prop} {md:Region.Mode} {S:World→Prop} {e:Nat}
theorem rH{i:Nat}{oi:Oper}{v:Value}(hi:ops[i]? = some oi)(hsel:∀ (j:Nat) (o:Oper) cs b,ops[j]? = some o→o.op≠.select cs b)
   (hQ:∀ c a w,Q (.panic c) (a.put oi.dst v) w→Q (.panic c) a w) (hbig:ops.size≤e) (hei:i≠e) :
   ∀ (fuel:Nat) (listed:Array Bool) (a:Act) (w:World),Closed md ops listed→
     (∀ j oj,ops[j]? = some oj→j≠i→listed.getD j true=false→(∀ ed∈oj.after,Region.binds md ed=true→ed.on≠i)→oi.apart ops oj=true)→
     i∈Region.ready md ops listed→YieldsIf P ops S oi v a→S w→
     lp P md ops Q e S fuel (listed.setIfInBounds i true) (a.put oi.dst v) w→lp P md ops Q e S (fuel+1) listed a w:=by
 intro fuel
 induction fuel with
 | zero =>
   intro listed a w hc _ hr hy hS H
   refine⟨fun h=>(by rw[h] at hr;cases hr),fun j hj =>?_⟩
   by_cases hji:j=i
   · subst hji;exact hy.wpOp hi hS ⟨fun _=>hS,H⟩
   have:=ready_mono hj hji
   rw[H.1] at this
   cases this
 | succ fuel ih =>
   intro listed a w hc hfree hr hy hS H
   refine⟨fun h=>(by rw[h] at hr;cases hr),fun j hj =>?_⟩
   by_cases hji:j=i
   · subst hji;exact hy.wpOp hi hS ⟨fun _=>hS,H⟩
   have h1:=H.2 j (ready_mono hj hji)
   obtain⟨hjun,oj,hoj,hall⟩:=mem_ready.1 hj
   have hnot:∀ ed∈oj.after,Region.binds md ed=true→ed.on≠i:=fun ed he hb heq=>by
     have h1:=hall ed he hb
     have h0:=(mem_ready.1 hr).1
     rw[heq,getD_both h0] at h1
     cases h1
   have h2:=wpOp_putIf hoj (hfree j oj hoj hji hjun hnot) (fun cs b=>hsel i oi cs b hi) (fun cs b=>hsel j oj cs b hoj) hQ hy h1
   have hfree':∀ k ok,ops[k]? = some ok→k≠i→(listed.setIfInBounds j true).getD k true=false→
       (∀ ed∈ok.after,Region.binds md ed=true→ed.on≠i)→oi.apart ops ok=true:=fun k ok hk hki hun hno=>by
     refine hfree k ok hk hki ?_ hno
     by_cases hjk:j=k
     · subst hjk;exact hjun
     rw[getD_set_ne true hjk] at hun;exact hun
   have hc':=hc.set hj
   have hr':=ready_mono hr (Ne.symm hji)
   have hen:(listed.setIfInBounds j true).getD e false=false:=by
     have hsz:(listed.setIfInBounds j true).size=ops.size:=hc'.1
     have hlt:¬ e<(listed.setIfInBounds j true).size:=by omega
     unfold Array.getD
     rw[dif_neg hlt]
   refine wpOp_mono (fun a' w' h3 =>?_) h2
   have hS':S w':=h3.2.1 (by rw[Array.setIfInBounds_comm _ _ (Ne.symm hji),getD_set_ne false hei];exact hen)
   refine⟨fun _=>hS',ih (listed.setIfInBounds j true) a' w' hc' hfree' hr' h3.1 hS' ?_⟩
   rw[Array.setIfInBounds_comm _ _ hji]
   exact h3.2.2
theorem tp(i:Nat)(d:Option Tmp){oi:Oper}{v:Value}{fuel:Nat}{listed:Array Bool}{a:Act}{w:World}(hS:S w)(hi:ops[i]? = some oi)(hd:oi.dst=d)
   (hs:Region.noSelect ops=true) (hf:Region.free md ops listed i=true) (hr:(Region.ready md ops listed).contains i=true)
   (hc:nc md ops listed=true) (hre:(decide (ops.size≤e) && decide (i≠e))=true)
   (hQ:∀ c a w,Q (.panic c) (a.put d v) w→Q (.panic c) a w) (hw:Region.wanted oi (Go.yielded ops a.tmps)=true)
   (hy:∀ W,S W→(execOp a.eval oi).run P W=.ok (.value v) W)
   (h:lp P md ops Q e S fuel (listed.setIfInBounds i true) (a.put d v) w):lp P md ops Q e S (fuel+1) listed a w:=by
 subst hd
 simp only [Bool.and_eq_true,decide_eq_true_eq] at hre
 exact rH hi (Region.noSelect_spec hs) hQ hre.1 hre.2 fuel listed a w (nG hc) (Region.free_spec hi hf) (by simpa using hr) (.inl ⟨hw,hy⟩) hS h
end
section
variable {P:Program} {n:Nat} {T:List (Nat×Value)} {a:Act} {w w0:World} {X:Cx} {M:Mm} {tt:TypeId} {pos:String} {af:Array Edge} {ops:Array Oper} {Q:Exit→Act→World→Prop} {md:Region.Mode} {e fuel:Nat} {S:World→Prop} {listed:Array Bool}
theorem lA(ha:Has n T a){oi:Oper}{j t:Nat}{b:Bool}(hg:oi.guard=some (j,b))(hj:(ops[j]?).bind (·.dst)=some t)(hb:lk T t=some (.bool b))(ht2:Nat.blt t n=true):Region.wanted oi (Go.yielded ops a.tmps)=true:=by simp [Region.wanted,hg,ha.yielded hj hb ht2]
theorem xY(i j:Nat){oi oj:Oper}(hi:ops[i]? = some oi)(hj:ops[j]? = some oj)(hr:Region.ready md ops listed=[i,j])
   (hwi:Region.wanted oi (Go.yielded ops a.tmps)=true) (hwj:Region.wanted oj (Go.yielded ops a.tmps)=true)
   (h1:∀ K':Act→World→Prop,(∀ a' w',((listed.setIfInBounds i true).getD e false=false→S w')→lp P md ops Q e S fuel (listed.setIfInBounds i true) a' w'→K' a' w')→Oper.wp P oi a w K' Q)
   (h2:∀ K':Act→World→Prop,(∀ a' w',((listed.setIfInBounds j true).getD e false=false→S w')→lp P md ops Q e S fuel (listed.setIfInBounds j true) a' w'→K' a' w')→Oper.wp P oj a w K' Q) :
   lp P md ops Q e S (fuel+1) listed a w:=by
 refine⟨fun h0=>absurd (hr ▸ h0) (by simp),fun q hq =>?_⟩
 rw[hr] at hq
 rcases List.mem_cons.1 hq with rfl|hq
 · refine wpOp_step hi (fun K' hK =>?_)
   rw[if_pos hwi]
   exact h1 K' (fun a' w' h hn=>hK a' w' ⟨h,hn⟩)
 obtain rfl:q=j:=by simpa using hq
 refine wpOp_step hj (fun K' hK =>?_)
 rw[if_pos hwj]
 exact h2 K' (fun a' w' h hn=>hK a' w' ⟨h,hn⟩)
end
section
variable {P:Program} {n:Nat} {T:List (Nat×Value)} {a:Act} {w w0:World} {X:Cx} {M:Mm}
theorem ms(m:MemOk X w0 M w){t:TypeId}{td:TypeDesc}{i g:Nat}{e:TypeId}{cs:List Value}(hm:lk M i=some (.box g e cs))(hu:P.underlying t=some td)(hr:td.isRow=true)(hs:(P.info? t).map (·.size)=some cs.length):(loadVar t ⟨g,0,none⟩).run P w=.ok (.agg cs.toArray) w:=
 run_loadVar_mid w g 0 t cs td (fun j v hj=>by rw[Nat.zero_add,(m.ok i _ hm).1.cell];exact hj) hu hr hs
theorem mK(ha:Has n T a)(m:MemOk X w0 M w){fn:Func}{t:Tmp}{ty:TypeId}{td:TypeDesc}{i g:Nat}{e:TypeId}{cs:List Value}{R:Ending→World→Prop}(hr:fn.results=#[.cell t ty])(hv:lk T t=some (.pointer (some ⟨g,0,none⟩)))(hm:lk M i=some (.box g e cs))(hu:P.underlying ty=some td)(hd:td.isRow=true)(hs:(P.info? ty).map (·.size)=some cs.length)(h:R (.returned (.agg cs.toArray)) w):bodyPost P fn R .ret a w:=
 ⟨ha.d,_,by
   have h1:=ha.h t _ hv
   rw[Array.getD_eq_getD_getElem?] at h1
   simp [results,hr,h1,asAddr,ms m hm hu hd hs],h⟩
theorem lL(ha:Has n T a)(m:MemOk X w0 M w){fn:Func}{t s:Tmp}{ty:TypeId}{td:TypeDesc}{i g:Nat}{e:TypeId}{cs:List Value}{u:Value}{R:Ending→World→Prop}(hr:fn.results=#[.cell t ty,.tmp s])(hv:lk T t=some (.pointer (some ⟨g,0,none⟩)))(hu2:lk T s=some u)(hm:lk M i=some (.box g e cs))(hu:P.underlying ty=some td)(hd:td.isRow=true)(hs:(P.info? ty).map (·.size)=some cs.length)(h:R (.returned (.tuple #[.agg cs.toArray,u])) w):bodyPost P fn R .ret a w:=
 ⟨ha.d,_,by
   have h1:=ha.h t _ hv
   have h2:=ha.h s _ hu2
   rw[Array.getD_eq_getD_getElem?] at h1 h2
   simp [results,hr,h1,h2,asAddr,ms m hm hu hd hs],h⟩
end
def WeakL(A:Mm):Mm→Prop
 | []=>True
 | (i,r) :: t=>(lk A i=some r∨∃ g e cs,lk A i=some (.box g e cs)∧r=.any g)∧WeakL A t
theorem WeakL.get{A:Mm}:∀ {B:Mm} {i:Nat} {r:Res},WeakL A B→lk B i=some r→lk A i=some r∨∃ g e cs,lk A i=some (.box g e cs)∧r=.any g
 | [],i,r,_,h=>by cases h
 | (j,s) :: B,i,r,hw,h=>by
   rw[lT] at h
   split at h
   · rename_i e;subst e;cases h;exact hw.1
   exact WeakL.get hw.2 h
theorem MemOk.to{X:Cx}{w0 w:World}{A B:Mm}(m:MemOk X w0 A w)(h:WeakL A B):MemOk X w0 B w:=by
 have hF:∀ b,mP X A b→mP X B b:=by
   rintro b ⟨hz,hf⟩
   refine⟨hz,?_⟩
   rintro⟨i,r,hi,hr⟩
   rcases h.get hi with h1|⟨g,e,cs,h1,rfl⟩
   · exact hf ⟨i,r,h1,hr⟩
   exact hf ⟨i,_,h1,hr⟩
 refine⟨m.keep,m.fresh,fun i r hi =>?_,fun i j r s b hi hj hr hs =>?_⟩
 · rcases h.get hi with h1|⟨g,e,cs,h1,rfl⟩
   · exact Res.ok_mono (m.ok i r h1) (Nat.le_refl _) (fun b _ hS=>⟨rfl,hF b hS⟩) (fun _ _=>rfl)
   exact⟨(m.ok i _ h1).1.lt,(m.ok i _ h1).2⟩
 obtain⟨r',h1,h2⟩:∃ r',lk A i=some r'∧r'.blk=some b:=by
   rcases h.get hi with h1|⟨g,e,cs,h1,rfl⟩
   · exact⟨r,h1,hr⟩
   exact⟨_,h1,hr⟩
 obtain⟨s',h3,h4⟩:∃ r',lk A j=some r'∧r'.blk=some b:=by
   rcases h.get hj with h1|⟨g,e,cs,h1,rfl⟩
   · exact⟨s,h1,hs⟩
   exact⟨_,h1,hs⟩
 exact m.sep i j r' s' b h1 h3 h2 h4
theorem vG{P:Program}{a:Act}{w w0:World}{X:Cx}{M B:Mm}{ops:Array Oper}{Q:Exit→Act→World→Prop}(e:Nat)(mB:MemOk X w0 B w)(m:MemOk X w0 M w){id:Nat}(hm:P.follows .mixedOrders=true)
   (h:∀ w',MemOk X w0 B w'→MemOk X w0 M w'→lp P .any ops Q e (MemOk X w0 B) ops.size (Array.replicate ops.size false) a w'):(Code.region id ops true).wp P Q a w:=
 qq e (MemOk X w0 B) hm (h _ mB.drew m.drew)
/-! ### Over a call -/
def Out(S:Nat→Prop)(w:World)(b:Nat):Prop:=S b∨w.heap.size≤b
section
variable {w w0:World} {X:Cx} {M:Mm}
theorem MemOk.free_out(m:MemOk X w0 M w){b:Nat}(h:Out (mP X M) w b):mP X M b:=by
 rcases h with h|h
 · exact h
 refine⟨m.fresh b (Nat.le_trans m.keep.size h),?_⟩
 rintro⟨j,s,hj,hs⟩
 have:=(Res.blk_lt (m.ok j s hj) hs).1
 omega
theorem MemOk.callD(m:MemOk X w0 M w)(i:Nat)(hi:lk M i=none){w':World}(hb:Below w.heap.size w w'){u:Value}{d:D}(h:Rd (Out (mP X M) w) w' u d):MemOk X w0 ((i,.dat u d) :: M) w':=
 (m.later hb).dat i hi (h.cast (fun _ hb=>m.free_out hb))
end
theorem Rd.nilN(S:Nat→Prop)(w:World)(k:IntKind)(a:Option Addr):Rd S w (.slice a 0 0) (.ns k []):=.ns ⟨a,0,rfl,⟨Nat.le_refl _,Nat.zero_le _⟩,.inl rfl⟩
section
variable {w w0:World} {X:Cx} {M:Mm}
theorem NumsS.of{S:Nat→Prop}{k:IntKind}{v u:Value}{zs zs':List Int}(h:NumsS S k w v zs){w':World}(hu:IsNums k w' u zs')(hl:∀ p c,u=.slice p zs'.length c→zs'.length≤c∧c≤maxLen)(hb:∀ g,u.ownBlock=some g→v.ownBlock=some g)(h0:zs.length=0→zs'.length=0):NumsS S k w' u zs':=by
 obtain⟨a,c,rfl,hz⟩:=hu
 refine⟨a,c,rfl,hl a c rfl,?_⟩
 rcases hz with hz|⟨b,off,rfl,h1,h2⟩
 · exact .inl hz
 obtain⟨a',c',rfl,-,h3|⟨b',off',rfl,h4,h5,h6⟩⟩:=h
 · exact .inl (h0 h3)
 have:=hb b rfl
 injection this with this
 subst this
 exact .inr ⟨_,off,rfl,h4,h1,h2⟩
end
end
section
def A3(a b:Int):Int:=IntKind.u8.wrap (BitVec.ofInt IntKind.u8.bits a ^^^ BitVec.ofInt IntKind.u8.bits b).toNat
theorem rI(z:Int):0≤IntKind.u8.wrap z∧IntKind.u8.wrap z≤255:=by
 have e:IntKind.u8.wrap z=z % 256:=by simp [IntKind.wrap,IntKind.signed,IntKind.bits]
 rw[e];omega
theorem NumsS.blk{S:Nat→Prop}{k:IntKind}{w:World}{p:Option Addr}{l c:Nat}{zs:List Int}(h:NumsS S k w (.slice p l c) zs):zs.length=0∨∃ b o,p=some ⟨b,o,none⟩∧b<w.heap.size:=by
 obtain⟨a,c',e,hc,h0|⟨b,off,rfl,h1,h2,h3⟩⟩:=h
 · exact .inl h0
 injection e with e1;exact .inr ⟨b,off,e1,h2⟩
theorem NumsS.cap{S:Nat→Prop}{k:IntKind}{w:World}{p:Option Addr}{l c:Nat}{zs:List Int}(h:NumsS S k w (.slice p l c) zs):zs.length≤c∧c≤maxLen:=by
 obtain⟨a,c',e,hc,-⟩:=h
 injection e with e1 e2 e3;subst e3;exact hc
theorem NumsS.ofRow{k:IntKind}{w:World}{a:Option Addr}{len cap:Nat}{zs:List Int}
   (h:(a=none∧len=0∧cap=0∧zs=[])∨∃ x,a=some x∧len≤cap∧cap≤maxLen∧zs.length=cap∧(∀ i,i<zs.length→w.cell? (x.add i)=some (.int k (zs.getD i 0)))∧∀ n∈zs,(Lit.int k n).wf=true) :
   ∃ ys,Rd (fun _=>True) w (.slice a ys.length cap) (.ns k ys)∧ys.length=len∧∀ n∈ys,(Lit.int k n).wf=true:=by
 have hl:len≤cap∧cap≤maxLen:=by
   rcases h with ⟨rfl,rfl,rfl,rfl⟩|⟨x,-,h1,h2,-⟩
   · exact⟨Nat.le_refl _,Nat.zero_le _⟩
   exact⟨h1,h2⟩
 obtain⟨ys,hn,e,-,hw⟩:=IsNums.ofRow h
 refine⟨ys,.ns ?_,e,hw⟩
 subst e
 obtain⟨p,c,e1,hz⟩:=hn
 injection e1 with e1 _ e3
 subst e1;subst e3
 refine⟨_,_,rfl,hl,?_⟩
 rcases hz with hz|⟨b,off,e2,h1,h2⟩
 · exact .inl hz
 exact .inr ⟨b,off,e2,trivial,h1,h2⟩
section
variable {P:Program} {n:Nat} {T:List (Nat×Value)} {a:Act} {w w0:World} {X:Cx} {M:Mm} {tt:TypeId} {pos:String} {af:Array Edge} {gd:Option (Nat×Bool)} {Q:Exit→Act→World→Prop} {K:Act→World→Prop}
theorem oa(ha:Has n T a)(m:MemOk X w0 M w)(i:Nat){d:Tmp}{t e:TypeId}{k:IntKind}{bytes:Nat}{s x:Operand}{u:Value}{zs:List Int}(hs:evT T s=some (.slice none 0 0))(hx:evT T x=some u)(hu:IsNums k w u zs)
   (ht:P.underlying t=some (.slice e)) (hinf:(P.info? e).map (fun i=>(i.zero,i.size,i.bytes))=some (some (.int k 0),1,bytes)) (hb8:bytes≤8) (hn:zs.length≤1000000000) (hd:Nat.blt d n=true)
   (h:∀ p c a' w',Has n ((d,.slice p zs.length c) :: T) a'→MemOk X w0 ((i,.num (.slice p zs.length c) e k zs) :: M) w'→K a' w'):Oper.wp P ⟨some d,.call { callee:=.builtin .append,args:=#[s,x],argTypes:=#[t,t] },tt,pos,af,gd⟩ a w K Q:=by
 obtain⟨v',w',hr,h1,h2,h3⟩:=sD (P:=P) w0.heap.size t tt e k bytes ht hinf hb8 (.slice none 0 0) [] (World.ownsRow_nil _ _ _ _) u zs hu (by simpa using hn) m.keep.size
 rw[List.nil_append] at h1
 have hm':MemOk X w0 ((i,.num v' e k zs) :: M) w':=m.upd i _ ((mV h2).mono (fun b e=>by cases e)) (fun b hb=>by
   rcases h3 with e1|e1
   · rw[show(Res.num v' e k zs).blk=v'.ownBlock from rfl,e1] at hb;cases hb
   have:some w.heap.size=some b:=e1.symm.trans hb
   injection this with this;right;omega) (fun _ _=>h1)
 obtain⟨p,c,e1⟩:=l6 h1
 have hrun:(execOp a.eval ⟨some d,.call { callee:=.builtin .append,args:=#[s,x],argTypes:=#[t,t] },tt,pos,af,gd⟩).run P w=.ok (.value v') w':=by
   simp only [execOp,resolve,invoke,builtin,Sem.run_bind,Sem.run_pure,Result.andThen_ok,List.map_toArray,List.map_cons,List.map_nil,ha.ev hs,ha.ev hx,hr]
 show Oper.upon P _ a K Q _
 rw[hrun]
 subst e1
 exact h p c _ _ (ha.put hd _) hm'
variable {d:Option Tmp}
theorem mD(h:Has n T a){t e:TypeId}{x y:Operand}{p:Option Addr}{l c:Nat}{k:IntKind}{q:Int}(j:Nat)(hx:evT T x=some (.slice p l c))(hy:evT T y=some (.int k q))(hu:P.underlying t=some (.slice e)){s:Nat}(hs:(P.info? e).map (·.size)=some s)(hq:q=j)(h1:j≤c):Yl P a w ⟨d,.slice t x none (some y) none,tt,pos,af,gd⟩ (.slice p j c):=by
 subst hq
 have:=vB (P:=P) (w:=w) (tt:=tt) (pos:=pos) (af:=af) (gd:=gd) (d:=d) h hx hy hu hs (by omega) (by omega)
 rwa [Int.toNat_natCast] at this
theorem lK(h:Has n T a){t e:TypeId}{x y:Operand}{p:Option Addr}{l c:Nat}{k:IntKind}{q:Int}(j:Nat)(hx:evT T x=some (.slice p l c))(hy:evT T y=some (.int k q))(hu:P.underlying t=some (.slice e)){s:Nat}(hs:(P.info? e).map (·.size)=some s)(hq:q=j)(h1:j≤l):Yl P a w ⟨d,.slice t x (some y) none none,tt,pos,af,gd⟩ (.slice (if c=j then p else p.map (·.add (j*s))) (l - j) (c - j)):=by
 subst hq
 have:=vC (P:=P) (w:=w) (tt:=tt) (pos:=pos) (af:=af) (gd:=gd) (d:=d) h hx hy hu hs (by omega) (by omega)
 rwa [Int.toNat_natCast] at this
theorem MemOk.takeN(m:MemOk X w0 M w){i:Nat}{p:Option Addr}{l c:Nat}{k:IntKind}{zs:List Int}(hm:lk M i=some (.dat (.slice p l c) (.ns k zs)))(j:Nat)(hj:j≤zs.length)(i2:Nat)(hi2:lk M i2=none):MemOk X w0 ((i2,.dat (.slice p j c) (.ns k (zs.take j))) :: M) w:=
 m.dat i2 hi2 (.ns ((m.rd hm).ns_out.take j hj))
end
section
variable {P:Program} {n:Nat} {T:List (Nat×Value)} {a:Act} {w w0:World} {X:Cx} {M:Mm} {tt:TypeId} {pos:String} {af:Array Edge} {gd:Option (Nat×Bool)}
theorem MemOk.openC(m:MemOk X w0 M w){i:Nat}{p:Option Addr}{l c mm:Nat}{e:TypeId}{rows:List (List D)}(hm:lk M i=some (.row (.slice p l c) e mm rows))(h0:0<rows.length):∃ g cs,p=some ⟨g,0,none⟩∧MemOk X w0 ((i,.rowC (.slice p l c) e mm rows cs) :: M) w:=by
 obtain⟨cs,hc⟩:=m.ok i _ hm
 have hown:=hc.1
 rcases hown.2 with ⟨e1,h1⟩|⟨g,cap,cur,e1,rest⟩
 · omega
 injection e1 with e1 e2 e3
 exact⟨g,cs,e1,m.upd i _ (Keep.refl _ _) (fun b hb=>.inl ⟨_,hm,hb⟩) (fun h1 _=>⟨hc.1,hc.2.1,hc.2.2.1,hc.2.2.2.1,fun j q c r x d a1 a2 a3 a4=>(hc.2.2.2.2 j q c r x d a1 a2 a3 a4).mono (Nat.le_refl _) (fun b hlt hS=>⟨rfl,h1 b hlt hS⟩)⟩)⟩
theorem MemOk.closeC(m:MemOk X w0 M w)(i:Nat){v:Value}{mm:Nat}{e:TypeId}{rows:List (List D)}{cs:List (List Value)}(hm:lk M i=some (.rowC v e mm rows cs)):MemOk X w0 ((i,.row v e mm rows) :: M) w:=by
 have hc:zb _ _ w v e mm rows cs:=m.ok i _ hm
 exact m.upd i _ (Keep.refl _ _) (fun b hb=>.inl ⟨_,hm,hb⟩) (fun h1 _=>⟨cs,hc.1,hc.2.1,hc.2.2.1,hc.2.2.2.1,fun j q c r x d a1 a2 a3 a4=>(hc.2.2.2.2 j q c r x d a1 a2 a3 a4).mono (Nat.le_refl _) (fun b hlt hS=>⟨rfl,h1 b hlt hS⟩)⟩)
theorem MemOk.eltC(m:MemOk X w0 M w){i:Nat}{v:Value}{mm:Nat}{e:TypeId}{rows:List (List D)}{cs:List (List Value)}(hm:lk M i=some (.rowC v e mm rows cs))(j:Nat){r:List D}(hr:rows[j]? = some r):∃ vs,cs[j]? = some vs∧RdL (mP X M) w vs r:=by
 obtain⟨h1,h2,h3,h4,h5⟩:zb _ _ w v e mm rows cs:=m.ok i _ hm
 have hj:j<cs.length:=by have:=(List.getElem?_eq_some_iff.1 hr).1;omega
 refine⟨cs[j],List.getElem?_eq_getElem hj,RdL.of ?_ (fun q x d a1 a2=>h5 j q cs[j] r x d (List.getElem?_eq_getElem hj) hr a1 a2)⟩
 rw[(h3 _ (List.getElem_mem hj)).1,h4 r (List.mem_of_getElem? hr)]
theorem vI(ha:Has n T a)(m:MemOk X w0 M w){d:Option Tmp}{t:TypeId}{td:TypeDesc}{x:Operand}{i g l c mm:Nat}{e:TypeId}{rows:List (List D)}{cs:List (List Value)}{vs:List Value}(hm:lk M i=some (.rowC (.slice (some ⟨g,0,none⟩) l c) e mm rows cs))(j:Nat)(hc:cs[j]? = some vs)(hx:evT T x=some (.pointer (some ⟨g,0+j*mm,none⟩)))(hu:P.underlying t=some td)(hr:td.isRow=true)(hs:(P.info? t).map (·.size)=some vs.length):Yl P a w ⟨d,.load t x,tt,pos,af,gd⟩ (.agg vs.toArray):=by
 obtain⟨h1,h2,h3,h4,h5⟩:zb _ _ w _ e mm rows cs:=m.ok i _ hm
 have hl:l=rows.length:=by
   rcases h1.2 with ⟨e1,_⟩|⟨_,_,_,e1,_⟩
   · cases e1
   injection e1
 subst hl
 have hj:j<cs.length:=(List.getElem?_eq_some_iff.1 hc).1
 have hvl:=(h3 vs (List.mem_of_getElem? hc)).1
 have hrg:w.rangeAt g (0+j*mm) vs:=fun q v hv=>by
   have hq:=(List.getElem?_eq_some_iff.1 hv).1
   have hf:=l5 cs j q vs (fun c hc=>(h3 c hc).1) hc (by omega)
   have:=h1.cellAt (j*mm+q) (by calc j*mm+q<j*mm+mm:=by omega
       _=(j+1)*mm:=by rw[Nat.add_mul];omega
       _≤rows.length*mm:=Nat.mul_le_mul_right _ (by omega))
   rw[Nat.zero_add,this,hf,hv]
 show(execOp _ _).run P w=_
 rw[ot t x rfl g (0+j*mm) (ha.ev hx) vs td hrg hu hr hs]
end
def oJ(M:Mm):List (Nat×Nat)→Mm
 | [] => []
 | (i,j) :: t=>match lk M j with
   | some r=>(i,r) :: oJ M t
   | none=>oJ M t
theorem mn{M:Mm}:∀ {ps:List (Nat×Nat)} {i:Nat} {r:Res},lk (oJ M ps) i=some r→∃ j,(i,j)∈ps∧lk M j=some r
 | [],i,r,h=>by cases h
 | (i',j) :: t,i,r,h=>by
   rw[oJ] at h
   split at h
   · rename_i r' hr
     rw[lT] at h
     split at h
     · rename_i e;subst e;cases h;exact⟨j,List.mem_cons_self,hr⟩
     obtain⟨j',h1,h2⟩:=mn h;exact⟨j',List.mem_cons_of_mem _ h1,h2⟩
   obtain⟨j',h1,h2⟩:=mn h;exact⟨j',List.mem_cons_of_mem _ h1,h2⟩
theorem MemOk.ren{X:Cx}{w0 w:World}{M:Mm}(m:MemOk X w0 M w)(ps:List (Nat×Nat))(hp:(ps.all fun p=>ps.all fun q => !(p.2 == q.2) || p.1 == q.1)=true):MemOk X w0 (oJ M ps) w where
 keep:=m.keep
 fresh:=m.fresh
 ok i r hi:=by
   obtain⟨j,h1,h2⟩:=mn hi
   exact Res.ok_mono (m.ok j r h2) (Nat.le_refl _) (fun b _ hS=>⟨rfl,hS.1,fun⟨k,s,hk,hs⟩=>by obtain⟨k',h3,h4⟩:=mn hk;exact hS.2 ⟨k',s,h4,hs⟩⟩) (fun _ _=>rfl)
 sep i j r s b h1 h2 hr hs:=by
   obtain⟨i',a1,a2⟩:=mn h1
   obtain⟨j',b1,b2⟩:=mn h2
   obtain rfl:=m.sep i' j' r s b a2 b2 hr hs
   rw[List.all_eq_true] at hp
   have h3:=hp _ a1
   rw[List.all_eq_true] at h3
   have h4:=h3 _ b1
   simpa using h4
end
section
theorem OwnsAt.cellAt{w:World}{base:Nat}{e:TypeId}{size:Nat}{v:Value}{n:Nat}{xs:List Value}(h:OwnsAt w base e size v n xs){g off cap:Nat}(hv:v=.slice (some ⟨g,off,none⟩) n cap)(j:Nat)(hj:j<n*size):w.cell? ⟨g,off+j,none⟩=xs[j]?:=by
 rcases h.2 with ⟨rfl,_⟩|⟨g',off',cap',cur,rfl,hbg,hgg,h1,h2,h3,h4⟩
 · cases hv
 injection hv with hv _ _
 injection hv with hv
 injection hv with e1 e2
 subst e1;subst e2
 have hlt:off'+j<cur.size:=by
   have:n*size≤cap'*size:=Nat.mul_le_mul_right _ h1
   omega
 rw[← h4,List.getElem?_take_of_lt hj,List.getElem?_drop]
 simp [World.cell?,hgg,hlt]
section
variable {P:Program} (w:World)
theorem ou(t ty e:TypeId)(i:TypeInfo)(ht:P.underlying t=some (.slice e))(hi:P.info? e=some i)
   (g off sLen sCap:Nat) (cur:Array Value) (hg:w.heap[g]? = some (.cells cur e (0,0)))
   (a:Addr) (m c:Nat) (news:List Value) (hl:news.length=m*i.size) (hnews:∀ j u,news[j]? = some u→w.cell? (a.add j)=some u) (h1:∀ u∈news,u.oneCell'=true)
   (hroom:sLen+m≤sCap) (hfit:off+sLen*i.size+news.length≤cur.size) :
   (Builtin.append_ #[t,t] ty #[.slice (some ⟨g,off,none⟩) sLen sCap,.slice (some a) m c]).run P w =
     .ok (.slice (some ⟨g,off,none⟩) (sLen+m) sCap) (w.setRow g (cur.toList.take (off+sLen*i.size)++news++cur.toList.drop (off+sLen*i.size+news.length)).toArray):=by
 have hf:=run_firstCells_some (P:=P) w i.size m a m c news hl hnews
 have hst:=run_storeCells_at P g (off+sLen*i.size) e news 0 cur w hg (by simpa using hfit) h1
 simp only [Nat.add_zero] at hst
 simp [Builtin.append_,run_underlying ht,sizeOf,typeInfo,hi,Builtin.lenOf,hroom,hf,Addr.add_lit,hst]
theorem pQ(base:Nat)(t ty e:TypeId)(z:Value)(size bytes:Nat)(ht:P.underlying t=some (.slice e))(hinf:(P.info? e).map (fun i=>(i.zero,i.size,i.bytes))=some (some z,size,bytes))
   (hzs:z.cells.size=size) (hsz:0<size) (p:Option Addr) (n cap k:Nat) (hk:k≤n) (xs:List Value) (hown:OwnsAt w base e size (.slice p n cap) n xs)
   (a:Addr) (m c:Nat) (news:List Value) (hl:news.length=m*size) (hnews:∀ j u,news[j]? = some u→w.cell? (a.add j)=some u) (h1:∀ u∈news,u.oneCell'=true)
   (h63:k+m≤maxLen) (hbytes:(k+m)*bytes≤140737488355328) (hbase:base≤w.heap.size) :
   ∃ v' w',(Builtin.append_ #[t,t] ty #[.slice p k cap,.slice (some a) m c]).run P w=.ok v' w'∧OwnsAt w' base e size v' (k+m) (xs.take (k*size)++news)∧w.grownBy w' (Value.slice p n cap).ownBlock∧(v'.ownBlock=(Value.slice p n cap).ownBlock∨v'.ownBlock=some w.heap.size):=by
 rcases hown.2 with ⟨e1,rfl⟩|⟨g,off,cap',cur,e1,hbg,hg,hnc,hcm,hcs,htake⟩
 · injection e1 with e1 _ e3
   subst e1;subst e3
   obtain rfl:k=0:=by omega
   have hx:xs=[]:=List.eq_nil_of_length_eq_zero (by simpa using hown.1)
   subst hx
   obtain⟨v',w',r1,r2,r3,r4⟩:=mc (P:=P) w base t ty e z size bytes ht hinf hzs hsz (.slice none 0 0) 0 [] (World.ownsRow_nil _ _ _ _) a m c news hl hnews h1 h63 hbytes hbase
   exact⟨v',w',r1,by simpa using OwnsAt.of r2,r3,r4⟩
 injection e1 with e1 _ e3
 subst e1;subst e3
 obtain⟨i,hi,hz,hsize,hby⟩:=info_parts hinf
 clear hinf
 subst hsize
 subst hby
 have hxl:=hown.1
 have hkn:k*i.size≤n*i.size:=Nat.mul_le_mul_right _ hk
 have hlen:(xs.take (k*i.size)++news).length=(k+m)*i.size:=by rw[List.length_append,List.length_take,hxl,hl,Nat.add_mul,Nat.min_eq_left hkn]
 by_cases hroom:k+m≤cap
 · have hfit:off+k*i.size+news.length≤cur.size:=by
     have:(k+m)*i.size≤cap*i.size:=Nat.mul_le_mul_right _ hroom
     rw[Nat.add_mul] at this
     omega
   have hr:=ou (P:=P) w t ty e i ht hi g off k cap cur hg a m c news hl hnews h1 hroom hfit
   refine⟨_,_,hr,⟨hlen,.inr ⟨g,off,cap,_,rfl,hbg,setRow_heap w g cur _ e _ hg,hroom,hcm,?_,?_⟩⟩,⟨rfl,rfl,rfl,by simp,fun b _ hb=>setRow_other w g b _ (fun e=>hb (by simp [Value.ownBlock,e]))⟩,.inl rfl⟩
   · simp only [List.size_toArray,List.length_append,List.length_take,List.length_drop,Array.length_toList]
     omega
   have h5:cur.toList.take (off+k*i.size)=cur.toList.take off++xs.take (k*i.size):=by
     rw[List.take_add,← htake,List.take_take,Nat.min_eq_left hkn]
   have h6:(cur.toList.take off).length=off:=by
     rw[List.length_take,Array.length_toList];omega
   show((List.toArray _).toList.drop off).take _=_
   rw[List.toList_toArray,h5,List.append_assoc,List.append_assoc,List.drop_left' h6,← List.append_assoc,List.take_left' hlen]
 have holds:∀ j u,(xs.take (k*i.size))[j]? = some u→w.cell? ((⟨g,off,none⟩:Addr).add j)=some u:=fun j u hj=>by
   have hjl:j<k*i.size:=by
     have:=(List.getElem?_eq_some_iff.1 hj).1
     rw[List.length_take] at this;omega
   rw[List.getElem?_take_of_lt hjl] at hj
   have:=hown.cellAt rfl j (by omega)
   rw[Addr.add_mid,this,hj]
 have hgr:=run_append_grow (P:=P) w t ty e i z ht hi hz ⟨g,off,none⟩ k cap (xs.take (k*i.size)) (by rw[List.length_take,hxl,Nat.min_eq_left hkn]) holds a m c news hl hnews (by omega) (by unfold maxLen at h63;omega) (growslice_fits (by omega) hbytes)
 have hge:=grownCap_ge w (k+m) cap e
 have hcm':grownCap w (k+m) cap e≤maxLen:=grownCap_le_maxLen w (k+m) cap e h63
 refine⟨_,_,hgr,⟨hlen,.inr ⟨w.heap.size,0,_,_,rfl,hbase,heap_alloc_new w.drew _,hge,hcm',?_,?_⟩⟩,⟨rfl,rfl,rfl,by simp,fun b hb _=>heap_alloc_old w.drew _ hb⟩,.inr rfl⟩
 · have h7:(xs.take (k*i.size)).length+news.length=(k+m)*i.size:=by rw[← List.length_append];exact hlen
   simp only [Array.size_append,List.size_toArray,size_zeroCells,hzs,h7,← Nat.add_mul]
   have:(k+m+(grownCap w (k+m) cap e - (k+m)))=grownCap w (k+m) cap e:=by omega
   rw[this];omega
 simp only [Array.toList_append,List.append_assoc,List.drop_zero]
 rw[← List.append_assoc,← hlen]
 exact List.take_left
end
section
variable {X:Cx} {w0 w:World} {M:Mm}
theorem MemOk.rowS(m:MemOk X w0 M w)(i:Nat){v:Value}{e:TypeId}{mm:Nat}{rows:List (List D)}(h:lk M i=some (.row v e mm rows)):MemOk X w0 ((i,.seg v e mm rows) :: M) w:=by
 obtain⟨cs,h1,h2,h3,h4,h5⟩:=m.ok i _ h
 have hl:=World.ownsRow.lt h1
 refine m.upd i _ (Keep.refl _ _) (fun b hb=>.inl ⟨_,h,hb⟩) (fun hf _=>⟨⟨cs,?_,h2,h3,h4,fun j q c r x d a1 a2 a3 a4=>(h5 j q c r x d a1 a2 a3 a4).mono (Nat.le_refl _) (fun b hlt hS=>⟨rfl,hf b hlt hS⟩)⟩,fun b hb=>.inl (hl b hb).1⟩)
 obtain⟨a1,a2⟩:=OwnsAt.of h1
 refine⟨a1,?_⟩
 rcases a2 with a2|⟨g,off,cap,cur,b1,_,rest⟩
 · exact .inl a2
 exact .inr ⟨g,off,cap,cur,b1,Nat.zero_le _,rest⟩
end
def xD(S:Nat→Prop)(w:World)(u:Value)(mm:Nat)(rows:List (List D)):Prop:=
 ∃ (p:Option Addr) (c:Nat) (cs:List (List Value)),u=.slice p rows.length c∧cs.length=rows.length∧(∀ c∈cs,c.length=mm∧∀ x∈c,x.oneCell'=true)∧(∀ r∈rows,r.length=mm)∧
   (∀ (j q:Nat) (c:List Value) (r:List D) (x:Value) (d:D),cs[j]? = some c→rows[j]? = some r→c[q]? = some x→r[q]? = some d→Rd S w x d)∧(rows.length=0∨∃ ad,p=some ad∧∀ j u,cs.flatten[j]? = some u→w.cell? (ad.add j)=some u)
theorem pv{P:Program}(w:World)(t ty e:TypeId)(i:TypeInfo)(ht:P.underlying t=some (.slice e))(hi:P.info? e=some i)(p:Option Addr)(k c cu:Nat)(hk:k≤c):(Builtin.append_ #[t,t] ty #[.slice p k c,.slice none 0 cu]).run P w=.ok (.slice p k c) w:=by
 cases p <;> simp [Builtin.append_,run_underlying ht,sizeOf,typeInfo,hi,Builtin.lenOf,Builtin.firstCells,loadCells,loadCellsFrom,hk,storeCells]
theorem nB{α:Type}{mm:Nat}:∀ (cs:List (List α)) (j:Nat),(∀ c∈cs,c.length=mm)→j≤cs.length→(cs.take j).flatten=cs.flatten.take (j*mm)
 | cs,0,_,_=>by simp
 | [],j+1,_,h=>by simp at h
 | a :: cs,j+1,hc,h=>by
   have ha:=hc a (by simp)
   rw[List.take_succ_cons,List.flatten_cons,nB cs j (fun c h=>hc c (by simp [h])) (by simpa using h),List.flatten_cons,Nat.add_mul,Nat.one_mul,List.take_append,(List.take_of_length_le (by omega):a.take (j*mm+mm)=a),ha,Nat.add_sub_cancel]
section
variable {P:Program} {n:Nat} {T:List (Nat×Value)} {a:Act} {w w0:World} {X:Cx} {M:Mm} {tt:TypeId} {pos:String} {af:Array Edge} {gd:Option (Nat×Bool)} {Q:Exit→Act→World→Prop} {K:Act→World→Prop}
theorem zm(ha:Has n T a)(m:MemOk X w0 M w)(i:Nat){d:Tmp}{t e:TypeId}{mm bytes l c:Nat}{p:Option Addr}{z:Value}{s x:Operand}{u:Value}{xs zs:List (List D)}(hm:lk M i=some (.seg (.slice p l c) e mm xs))(k:Nat)(hk:k≤xs.length)(hs:evT T s=some (.slice p k c))(hx:evT T x=some u)(hu:xD (mP X M) w u mm zs)
   (ht:P.underlying t=some (.slice e)) (hinf:(P.info? e).map (fun i=>(i.zero,i.size,i.bytes))=some (some z,mm,bytes)) (hz:z.cells.size=mm) (h0:Nat.blt 0 mm=true) (hb8:bytes≤1000) (hn:k+zs.length≤100000000) (hd:Nat.blt d n=true)
   (h:∀ p c a' w',Has n ((d,.slice p (xs.take k++zs).length c) :: T) a'→MemOk X w0 ((i,.seg (.slice p (xs.take k++zs).length c) e mm (xs.take k++zs)) :: M) w'→K a' w'):Oper.wp P ⟨some d,.call { callee:=.builtin .append,args:=#[s,x],argTypes:=#[t,t] },tt,pos,af,gd⟩ a w K Q:=by
 obtain⟨⟨cs,hown,hcl,hc1,hxm,hcr⟩,hxx⟩:=m.ok i _ hm
 obtain⟨pu,cu,cz,rfl,hzl,hz1,hzm,hzr,hzp⟩:=hu
 have hl:l=xs.length:=by
   rcases hown.2 with ⟨e1,h1⟩|⟨_,_,_,_,e1,_⟩
   · injection e1 with _ e2 _;omega
   injection e1
 subst hl
 have h0':0<mm:=by simpa using h0
 have hbn:(k+zs.length)*bytes≤140737488355328:=Nat.le_trans (Nat.mul_le_mul_left _ hb8) (by omega)
 have hfl:cz.flatten.length=zs.length*mm:=by rw[← List.flatMap_id,nF id mm _ (fun c hc=>(hz1 c hc).1),hzl]
 have hkl:(xs.take k).length=k:=by rw[List.length_take];omega
 have hkc:k≤c:=by
   rcases hown.2 with ⟨e1,h1⟩|⟨_,_,_,_,e1,_,_,h1,_⟩
   · injection e1 with _ e2 e3;omega
   injection e1 with _ _ e3;subst e3;omega
 have hft:(cs.take k).flatten=cs.flatten.take (k*mm):=nB cs k (fun c hc=>(hc1 c hc).1) (by omega)
 have hrun0:∃ v' w',(Builtin.append_ #[t,t] tt #[.slice p k c,.slice pu zs.length cu]).run P w=.ok v' w'∧OwnsAt w' 0 e mm v' (k+zs.length) (cs.flatten.take (k*mm)++cz.flatten)∧w.grownBy w' (Value.slice p xs.length c).ownBlock∧(v'.ownBlock=(Value.slice p xs.length c).ownBlock∨v'.ownBlock=some w.heap.size):=by
   have main:∀ ad:Addr,pu=some ad→(∀ j u,cz.flatten[j]? = some u→w.cell? (ad.add j)=some u)→∃ v' w',(Builtin.append_ #[t,t] tt #[.slice p k c,.slice pu zs.length cu]).run P w=.ok v' w'∧OwnsAt w' 0 e mm v' (k+zs.length) (cs.flatten.take (k*mm)++cz.flatten)∧w.grownBy w' (Value.slice p xs.length c).ownBlock∧(v'.ownBlock=(Value.slice p xs.length c).ownBlock∨v'.ownBlock=some w.heap.size):=by
     intro ad hpa hcells
     rw[hpa]
     exact pQ (P:=P) w 0 t tt e z mm bytes ht hinf hz h0' p xs.length c k hk cs.flatten hown ad zs.length cu cz.flatten hfl hcells (fun u hu=>by obtain⟨c,hc,hx⟩:=List.mem_flatten.1 hu;exact(hz1 c hc).2 u hx) (by unfold maxLen;omega) hbn (Nat.zero_le _)
   rcases hzp with h9|⟨ad,e1,e2⟩
   · obtain rfl:=List.length_eq_zero_iff.1 h9
     obtain rfl:cz=[]:=List.length_eq_zero_iff.1 (by simpa using hzl)
     cases pu with
     | none =>
       obtain⟨i0,hi,-⟩:=info_parts hinf
       refine⟨_,w,pv w t tt e i0 ht hi p k c cu hkc,?_,⟨rfl,rfl,rfl,Nat.le_refl _,fun _ _ _=>rfl⟩,.inl (by cases p <;> rfl)⟩
       have hkm:k*mm≤xs.length*mm:=Nat.mul_le_mul_right _ hk
       refine⟨by rw[List.length_append,List.length_take,hown.1,Nat.min_eq_left hkm];simp,?_⟩
       rcases hown.2 with ⟨e1,h1⟩|⟨g,off,cap,cur,e1,hbg,hg,hnc,hcm,hcs,htake⟩
       · injection e1 with e1 _ e3;subst e1;subst e3
         obtain rfl:k=0:=by omega
         exact .inl ⟨rfl,rfl⟩
       injection e1 with e1 _ e3;subst e1;subst e3
       refine .inr ⟨g,off,c,cur,rfl,hbg,hg,hkc,hcm,hcs,?_⟩
       rw[← htake];simp [List.take_take,Nat.min_eq_left hkm]
     | some ad=>exact main ad rfl (by simp)
   exact main ad e1 e2
 obtain⟨v',w',hr,h1,h2,h3⟩:=hrun0
 have hm':MemOk X w0 ((i,.seg v' e mm (xs.take k++zs)) :: M) w':=m.upd i _ ((mV h2).mono (fun b e=>⟨_,hm,e⟩)) (fun b hb=>by
   rcases h3 with e1|e1
   · exact .inl ⟨_,hm,e1.symm.trans hb⟩
   · have:some w.heap.size=some b:=e1.symm.trans hb
     injection this with this;right;omega) (fun hf _=>by
   refine⟨⟨cs.take k++cz,?_,by rw[List.length_append,List.length_append,List.length_take,List.length_take,hcl,hzl],?_,?_,?_⟩,?_⟩
   · rw[List.length_append,List.flatten_append,hkl,hft];exact h1
   · intro c hc
     rcases List.mem_append.1 hc with hc|hc
     · exact hc1 c (List.mem_of_mem_take hc)
     exact hz1 c hc
   · intro r hr
     rcases List.mem_append.1 hr with hr|hr
     · exact hxm r (List.mem_of_mem_take hr)
     exact hzm r hr
   · intro j q c' r x d a1 a2 a3 a4
     have hmono:∀ b,b<w.heap.size→mP X M b→w'.heap[b]? = w.heap[b]?∧mP X ((i,Res.seg v' e mm (xs.take k++zs)) :: M) b:=fun b hlt hF=>⟨h2.block b hlt (fun e1=>hF.2 ⟨i,_,hm,e1.symm⟩),hf b hlt hF⟩
     have hkc':(cs.take k).length=k:=by rw[List.length_take];omega
     by_cases hj:j<k
     · rw[List.getElem?_append_left (by omega),List.getElem?_take_of_lt hj] at a1
       rw[List.getElem?_append_left (by omega),List.getElem?_take_of_lt hj] at a2
       exact(hcr j q c' r x d a1 a2 a3 a4).mono h2.size hmono
     rw[List.getElem?_append_right (by omega)] at a1
     rw[List.getElem?_append_right (by omega)] at a2
     rw[hkc'] at a1
     rw[hkl] at a2
     exact(hzr _ q c' r x d a1 a2 a3 a4).mono h2.size hmono
   intro b hb
   rcases h3 with e1|e1
   · exact hxx b (e1.symm.trans hb)
   have:some w.heap.size=some b:=e1.symm.trans hb
   injection this with this;left;have:=m.keep.size;omega)
 have hsh:∃ p' c',v'=.slice p' (xs.take k++zs).length c':=by
   rw[List.length_append,hkl]
   rcases h1.2 with ⟨e1,e2⟩|⟨g,off,cap,cur,e1,_⟩
   · rw[e2];exact⟨_,_,e1⟩
   exact⟨_,_,e1⟩
 obtain⟨p',c',e1⟩:=hsh
 have hrun:(execOp a.eval ⟨some d,.call { callee:=.builtin .append,args:=#[s,x],argTypes:=#[t,t] },tt,pos,af,gd⟩).run P w=.ok (.value v') w':=by
   simp only [execOp,resolve,invoke,builtin,Sem.run_bind,Sem.run_pure,Result.andThen_ok,List.map_toArray,List.map_cons,List.map_nil,ha.ev hs,ha.ev hx,hr]
 show Oper.upon P _ a K Q _
 rw[hrun]
 subst e1
 exact h p' c' _ _ (ha.put hd _) hm'
end
section
variable {P:Program} {n:Nat} {T:List (Nat×Value)} {a:Act} {w w0:World} {X:Cx} {M:Mm} {tt:TypeId} {pos:String} {af:Array Edge} {gd:Option (Nat×Bool)} {Q:Exit→Act→World→Prop} {K:Act→World→Prop}
theorem xZ(ha:Has n T a)(m:MemOk X w0 M w)(i:Nat){d:Tmp}{t e:TypeId}{mm bytes l c:Nat}{p:Option Addr}{z:Value}{s x:Operand}{u:Value}{xs zs:List (List D)}(hm:lk M i=some (.seg (.slice p l c) e mm xs))(hs:evT T s=some (.slice p l c))(hx:evT T x=some u)(hu:xD (mP X M) w u mm zs)
   (ht:P.underlying t=some (.slice e)) (hinf:(P.info? e).map (fun i=>(i.zero,i.size,i.bytes))=some (some z,mm,bytes)) (hz:z.cells.size=mm) (h0:Nat.blt 0 mm=true) (hb8:bytes≤1000) (hn:xs.length+zs.length≤100000000) (hd:Nat.blt d n=true)
   (h:∀ p c a' w',Has n ((d,.slice p (xs++zs).length c) :: T) a'→MemOk X w0 ((i,.seg (.slice p (xs++zs).length c) e mm (xs++zs)) :: M) w'→K a' w'):Oper.wp P ⟨some d,.call { callee:=.builtin .append,args:=#[s,x],argTypes:=#[t,t] },tt,pos,af,gd⟩ a w K Q:=by
 have hl:l=xs.length:=by
   obtain⟨⟨cs,hown,_⟩,_⟩:=m.ok i _ hm
   rcases hown.2 with ⟨e1,h1⟩|⟨_,_,_,_,e1,_⟩
   · injection e1 with _ e2 _;omega
   injection e1
 subst hl
 refine zm ha m i hm xs.length (Nat.le_refl _) hs hx hu ht hinf hz h0 hb8 hn hd ?_
 rw[List.take_length]
 exact h
theorem MemOk.openS(m:MemOk X w0 M w){i:Nat}{p:Option Addr}{l c mm:Nat}{e:TypeId}{rows:List (List D)}(hm:lk M i=some (.seg (.slice p l c) e mm rows))(j:Nat){r:List D}(hr:rows[j]? = some r):∃ g off vs,p=some ⟨g,off,none⟩∧l=rows.length∧RdL (mP X M) w vs r∧w.rangeAt g (off+j*mm) vs:=by
 obtain⟨⟨cs,hown,h2,h3,h4,h5⟩,hx⟩:=m.ok i _ hm
 have hj:j<rows.length:=(List.getElem?_eq_some_iff.1 hr).1
 have hjc:j<cs.length:=by omega
 rcases hown.2 with ⟨e1,h1⟩|⟨g,off,cap,cur,e1,_⟩
 · omega
 injection e1 with e1 e2 e3
 have hc:cs[j]? = some cs[j]:=List.getElem?_eq_getElem hjc
 refine⟨g,off,cs[j],e1,e2,RdL.of ?_ (fun q x d a1 a2=>h5 j q cs[j] r x d hc hr a1 a2),fun q v hv =>?_⟩
 · rw[(h3 _ (List.getElem_mem hjc)).1,h4 r (List.mem_of_getElem? hr)]
 have hq:=(List.getElem?_eq_some_iff.1 hv).1
 have hvl:=(h3 _ (List.getElem_mem hjc)).1
 have hf:=l5 cs j q cs[j] (fun c hc=>(h3 c hc).1) hc (by omega)
 have:=hown.cellAt (by rw[e1,e2]) (j*mm+q) (by calc j*mm+q<j*mm+mm:=by omega
   _=(j+1)*mm:=by rw[Nat.add_mul];omega
   _≤rows.length*mm:=Nat.mul_le_mul_right _ (by omega))
 rw[Nat.add_assoc,this,hf,hv]
theorem sF(ha:Has n T a){d:Option Tmp}{t:TypeId}{td:TypeDesc}{x:Operand}{b o:Nat}{vs:List Value}(hr:w.rangeAt b o vs)(hx:evT T x=some (.pointer (some ⟨b,o,none⟩)))(hu:P.underlying t=some td)(hd:td.isRow=true)(hs:(P.info? t).map (·.size)=some vs.length):Yl P a w ⟨d,.load t x,tt,pos,af,gd⟩ (.agg vs.toArray):=by
 show(execOp _ _).run P w=_
 rw[ot t x rfl b o (ha.ev hx) vs td hr hu hd hs]
/-! ### A struct of one slice of one's own, behind a pointer -/
def cxp(S:Nat→Prop)(w:World)(B:Nat)(v:Value):Cx:=⟨B :: v.ownBlock.toList,fun b=>b<w.heap.size→S b⟩
theorem SegOk.mono{S S':Nat→Prop}{w:World}{v:Value}{e:TypeId}{m:Nat}{rows:List (List D)}(h:SegOk S w v e m rows)(hs:∀ b,b<w.heap.size→S b→S' b):SegOk S' w v e m rows:=by
 obtain⟨cs,h1,h2,h3,h4,h5⟩:=h
 exact⟨cs,h1,h2,h3,h4,fun j q c r x d a1 a2 a3 a4=>(h5 j q c r x d a1 a2 a3 a4).mono (Nat.le_refl _) (fun b hlt hS=>⟨rfl,hs b hlt hS⟩)⟩
def AJ(S:Nat→Prop)(w:World)(B:Nat)(pt e:TypeId)(mm:Nat)(v:Value)(rows:List (List D))(w':World)(v':Value):Prop:=
 Blk w' B pt [v']∧SegOk (fun b=>(S b∨w.heap.size≤b)∧b≠B∧v'.ownBlock≠some b) w' v' e mm rows∧Keep (fun b=>b=B∨v.ownBlock=some b) w w'∧(∀ b,v'.ownBlock=some b→w.heap.size≤b∨v.ownBlock=some b)∧v'.ownBlock≠some B
theorem SegOk.shape{S:Nat→Prop}{w:World}{v:Value}{e:TypeId}{m:Nat}{rows:List (List D)}(h:SegOk S w v e m rows):∃ p c,v=.slice p rows.length c:=by
 obtain⟨cs,h1,_⟩:=h
 rcases h1.2 with ⟨e1,e2⟩|⟨g,off,cap,cur,e1,_⟩
 · rw[e2];exact⟨_,_,e1⟩
 exact⟨_,_,e1⟩
end
end
section
section
variable {P:Program} {n:Nat} {T:List (Nat×Value)} {a:Act} {w w0:World} {X:Cx} {M:Mm} {tt tt':TypeId} {pos pos':String} {af af':Array Edge} {ops:Array Oper} {rest:List Oper} {Q:Exit→Act→World→Prop}
end
end
section
theorem SegOk.rd{S S':Nat→Prop}{w:World}{v:Value}{e:TypeId}{mm:Nat}{rows:List (List D)}(h:SegOk S w v e mm rows)(hS:∀ b,b<w.heap.size→S b→S' b)(hv:∀ b,v.ownBlock=some b→S' b):Rd S' w v (.l mm rows):=by
 obtain⟨cs,h1,h2,h3,h4,h5⟩:=h
 rcases h1.2 with ⟨rfl,h0⟩|⟨g,off,cap,cur,e1,hg,hbk,hcap,h7,h8,h9⟩
 · obtain rfl:=List.length_eq_zero_iff.1 h0
   exact .l0 none 0 mm
 subst e1
 have hlt:=(Array.getElem?_eq_some_iff.1 hbk).1
 refine .l mm g off cap rows (fun j q=>(cs.flatten[j*mm+q]?).getD undef) (hv g rfl) hlt hcap h4 (fun j q hj hq =>?_) (fun j q r d hj hq =>?_)
 · have hjc:j<cs.length:=by omega
   have hc:cs[j]? = some cs[j]:=List.getElem?_eq_getElem hjc
   have hm:=(h3 cs[j] (List.getElem_mem hjc)).1
   have hx:cs[j][q]? = some (cs[j][q]'(by omega)):=List.getElem?_eq_getElem (by omega)
   have hf:=l5 cs j q cs[j] (fun c hc=>(h3 c hc).1) hc hq
   have:=h1.cellAt rfl (j*mm+q) (by calc j*mm+q<j*mm+mm:=by omega
       _=(j+1)*mm:=by rw[Nat.add_mul];omega
       _≤rows.length*mm:=Nat.mul_le_mul_right _ (by omega))
   rw[Nat.add_assoc,this,hf,hx]
   exact⟨rfl,(h3 cs[j] (List.getElem_mem hjc)).2 _ (List.getElem_mem _)⟩
 have hjr:=(List.getElem?_eq_some_iff.1 hj).1
 have hjc:j<cs.length:=by omega
 have hc:cs[j]? = some cs[j]:=List.getElem?_eq_getElem hjc
 have hm:=(h3 cs[j] (List.getElem_mem hjc)).1
 have hqr:=(List.getElem?_eq_some_iff.1 hq).1
 have hrm:=h4 r (List.mem_of_getElem? hj)
 have hx:cs[j][q]? = some (cs[j][q]'(by omega)):=List.getElem?_eq_getElem (by omega)
 have hf:=l5 cs j q cs[j] (fun c hc=>(h3 c hc).1) hc (by omega)
 show Rd S' w ((cs.flatten[j*mm+q]?).getD undef) d
 rw[hf,hx]
 exact(h5 j q cs[j] r _ d hc hj hx hq).mono (Nat.le_refl _) (fun b hlt hs=>⟨rfl,hS b hlt hs⟩)
theorem SegOk.take{S:Nat→Prop}{w:World}{p:Option Addr}{l c mm:Nat}{e:TypeId}{rows:List (List D)}(h:SegOk S w (.slice p l c) e mm rows)(j:Nat)(hj:j≤rows.length):SegOk S w (.slice p j c) e mm (rows.take j):=by
 obtain⟨cs,h1,h2,h3,h4,h5⟩:=h
 have hft:(cs.take j).flatten=cs.flatten.take (j*mm):=nB cs j (fun c hc=>(h3 c hc).1) (by omega)
 have hjm:j*mm≤rows.length*mm:=Nat.mul_le_mul_right _ hj
 have hjl:(rows.take j).length=j:=by rw[List.length_take];omega
 refine⟨cs.take j,?_,by simp [h2],fun c hc=>h3 c (List.mem_of_mem_take hc),fun r hr=>h4 r (List.mem_of_mem_take hr),fun j' q c' r x d a1 a2 a3 a4 =>?_⟩
 · rw[hjl,hft]
   refine⟨by rw[List.length_take,h1.1];omega,?_⟩
   rcases h1.2 with ⟨e1,h0⟩|⟨g,off,cap,cur,e1,hg,hbk,hcap,h7,h8,h9⟩
   · injection e1 with e1 _ e3;subst e1;subst e3
     obtain rfl:j=0:=by omega
     exact .inl ⟨rfl,rfl⟩
   injection e1 with e1 _ e3;subst e1;subst e3
   exact .inr ⟨g,off,c,cur,rfl,hg,hbk,by omega,h7,h8,by rw[← h9,List.take_take,Nat.min_eq_left hjm]⟩
 have hlt:j'<j:=by
   have:=(List.getElem?_eq_some_iff.1 a2).1
   rw[hjl] at this;exact this
 rw[List.getElem?_take_of_lt hlt] at a1 a2
 exact h5 j' q c' r x d a1 a2 a3 a4
section
variable {w w0:World} {X:Cx} {M:Mm}
theorem MemOk.freezeS(m:MemOk X w0 M w)(i:Nat){v:Value}{e:TypeId}{k:Nat}{rows:List (List D)}(h:lk M i=some (.seg v e k rows))(hN:∀ b,b∉X.bad):MemOk X w0 ((i,.dat v (.l k rows)) :: M) w:=
 m.upd i _ (Keep.refl _ _) (fun b hb=>by cases hb) (fun h1 h2=>by
   have hs:=m.ok i _ h
   exact hs.1.rd h1 (fun b hb=>h2 b ⟨_,h,hb⟩ ((hs.2 b hb).resolve_right (hN b)) (fun c hc=>by cases hc)))
theorem Rd.ext{S2:Nat→Prop}{p:Option Addr}{l c mm:Nat}{rows:List (List D)}(h:Rd S2 w0 (.slice p l c) (.l mm rows))(m:MemOk X w0 M w)(hX:∀ b,S2 b→b∉X.bad)(j:Nat){r:List D}(hr:rows[j]? = some r):∃ g off vs,p=some ⟨g,off,none⟩∧l=rows.length∧RdL S2 w0 vs r∧w.rangeAt g (off+j*mm) vs:=by
 have hj:j<rows.length:=(List.getElem?_eq_some_iff.1 hr).1
 rcases Rd.l_out h with rfl|⟨b,off,c',f,e,hS,hb,hmm,hcell,hrd⟩
 · simp at hj
 injection e with e1 e2 e3
 have hrm:r.length=mm:=hmm r (List.mem_of_getElem? hr)
 refine⟨b,off,(List.range mm).map (f j),e1,e2,RdL.of (by simp [hrm]) (fun q v d h1 h2 =>?_),fun q v hv =>?_⟩
 · have h1':q<mm:=by have:=(List.getElem?_eq_some_iff.1 h2).1;omega
   have:v=f j q:=by simpa [h1'] using h1.symm
   subst this
   exact hrd j q r _ hr h2
 have hq':=(List.getElem?_eq_some_iff.1 hv).1
 have hq2:q<mm:=by simpa using hq'
 have:v=f j q:=by simpa [hq2] using hv.symm
 subst this
 rw[World.cell?_of_block (w:=w0) (m.keep.2.2.2.2 b hb (hX b hS))]
 exact(hcell j q hj hq2).1
theorem Rd.now{S2:Nat→Prop}{v:Value}{d:D}(h:Rd S2 w0 v d)(m:MemOk X w0 M w)(hX:∀ b,S2 b→b∉X.bad):Rd S2 w v d:=h.mono m.keep.size (fun b hlt hS=>⟨m.keep.2.2.2.2 b hlt (hX b hS),hS⟩)
end
end
section
theorem vu{P:Program}{w:World}(base:Nat)(t ty e:TypeId)(k:IntKind)(bytes:Nat)(ht:P.underlying t=some (.slice e))(hinf:(P.info? e).map (fun i=>(i.zero,i.size,i.bytes))=some (some (.int k 0),1,bytes))
   (u:Value) (zs:List Int) (hu:IsNums k w u zs) (hn:zs.length≤maxLen) (hbn:zs.length*bytes≤140737488355328) (hbase:base≤w.heap.size) :
   ∃ v' w',(Builtin.append_ #[t,t] ty #[.slice none 0 0,u]).run P w=.ok v' w'∧w'.ownsRow base e 1 v' zs.length (zs.map (Value.int k))∧w.grownBy w' none∧(v'.ownBlock=none∨v'.ownBlock=some w.heap.size):=by
 obtain⟨p,c,rfl,hp⟩:=hu
 have hown:w.ownsRow base e 1 (.slice none 0 0) 0 []:=World.ownsRow_nil _ _ _ _
 have main:∀ ad:Addr,p=some ad→(∀ j v,(zs.map (Value.int k))[j]? = some v→w.cell? (ad.add j)=some v)→∃ v' w',(Builtin.append_ #[t,t] ty #[.slice none 0 0,.slice p zs.length c]).run P w=.ok v' w'∧w'.ownsRow base e 1 v' zs.length (zs.map (Value.int k))∧w.grownBy w' none∧(v'.ownBlock=none∨v'.ownBlock=some w.heap.size):=by
   intro ad hpa hcells
   rw[hpa]
   have:=mc (P:=P) w base t ty e (.int k 0) 1 bytes ht hinf rfl (by decide) (.slice none 0 0) 0 [] hown ad zs.length c (zs.map (Value.int k)) (by simp) hcells (by intro u hu;obtain⟨y,_,rfl⟩:=List.mem_map.1 hu;rfl) (by omega) (by rw[Nat.zero_add];exact hbn) hbase
   simpa [Value.ownBlock] using this
 by_cases h0:zs.length=0
 · obtain rfl:=List.length_eq_zero_iff.1 h0
   cases p with
   | none =>
     obtain⟨i0,hi,-⟩:=info_parts hinf
     exact⟨.slice none 0 0,w,mQ ht hi hown c,by simpa using hown,⟨rfl,rfl,rfl,Nat.le_refl _,fun _ _ _=>rfl⟩,.inl rfl⟩
   | some ad=>exact main ad rfl (by simp)
 rcases hp with hp|⟨b,off,rfl,hblk,hc⟩
 · exact absurd hp h0
 refine main _ rfl ?_
 intro j u hj
 have hjn:j<zs.length:=by
   have:=(List.getElem?_eq_some_iff.1 hj).1
   simpa using this
 rw[Addr.add_lit,hc j hjn]
 simp [hjn] at hj
 subst hj
 simp [List.getD,hjn]
section
variable {P:Program} {n:Nat} {T:List (Nat×Value)} {a:Act} {w w0:World} {X:Cx} {M:Mm} {tt:TypeId} {pos:String} {af:Array Edge} {gd:Option (Nat×Bool)} {Q:Exit→Act→World→Prop} {K:Act→World→Prop}
theorem nC(ha:Has n T a)(m:MemOk X w0 M w)(i:Nat){d:Tmp}{t e:TypeId}{k:IntKind}{bytes:Nat}{s x:Operand}{u:Value}{zs:List Int}(hs:evT T s=some (.slice none 0 0))(hx:evT T x=some u)(hu:IsNums k w u zs)
   (ht:P.underlying t=some (.slice e)) (hinf:(P.info? e).map (fun i=>(i.zero,i.size,i.bytes))=some (some (.int k 0),1,bytes)) (hb8:1≤bytes) (hn:zs.length*bytes≤140737488355328) (hd:Nat.blt d n=true)
   (h:∀ p c a' w',Has n ((d,.slice p zs.length c) :: T) a'→MemOk X w0 ((i,.num (.slice p zs.length c) e k zs) :: M) w'→K a' w'):Oper.wp P ⟨some d,.call { callee:=.builtin .append,args:=#[s,x],argTypes:=#[t,t] },tt,pos,af,gd⟩ a w K Q:=by
 have hle:zs.length≤zs.length*bytes:=Nat.le_mul_of_pos_right _ hb8
 obtain⟨v',w',hr,h1,h2,h3⟩:=vu (P:=P) w0.heap.size t tt e k bytes ht hinf u zs hu (by unfold maxLen;omega) hn m.keep.size
 have hm':MemOk X w0 ((i,.num v' e k zs) :: M) w':=m.upd i _ ((mV (v:=.slice none 0 0) h2).mono (fun b e=>by cases e)) (fun b hb=>by
   rcases h3 with e1|e1
   · rw[show(Res.num v' e k zs).blk=v'.ownBlock from rfl,e1] at hb;cases hb
   have:some w.heap.size=some b:=e1.symm.trans hb
   injection this with this;right;omega) (fun _ _=>h1)
 obtain⟨p,c,e1⟩:=l6 h1
 have hrun:(execOp a.eval ⟨some d,.call { callee:=.builtin .append,args:=#[s,x],argTypes:=#[t,t] },tt,pos,af,gd⟩).run P w=.ok (.value v') w':=by
   simp only [execOp,resolve,invoke,builtin,Sem.run_bind,Sem.run_pure,Result.andThen_ok,List.map_toArray,List.map_cons,List.map_nil,ha.ev hs,ha.ev hx,hr]
 show Oper.upon P _ a K Q _
 rw[hrun]
 subst e1
 exact h p c _ _ (ha.put hd _) hm'
end
theorem SegOk.src{S:Nat→Prop}{w:World}{v:Value}{e:TypeId}{mm:Nat}{rows:List (List D)}(h:SegOk S w v e mm rows):xD S w v mm rows:=by
 obtain⟨cs,h1,h2,h3,h4,h5⟩:=h
 rcases h1.2 with ⟨e1,h0⟩|⟨g,off,cap,cur,e1,hg,hbk,hcap,h7,h8,h9⟩
 · exact⟨none,0,cs,by rw[e1,h0],h2,h3,h4,h5,.inl h0⟩
 refine⟨_,cap,cs,e1,h2,h3,h4,h5,.inr ⟨_,rfl,fun j u hj =>?_⟩⟩
 have hjl:j<rows.length*mm:=by rw[← h1.1];exact(List.getElem?_eq_some_iff.1 hj).1
 have:=h1.cellAt e1 j hjl
 rw[Addr.add_mid,this,hj]
end
section
inductive Shp where
 | i (k:IntKind)
 | bo
 | st
 | ns (k:IntKind)
 | l (ss:List Shp)
mutual
inductive DOk:Shp→D→Prop
 | i {k:IntKind} {z:Int} (h:(Lit.int k z).wf=true):DOk (.i k) (.v (.int k z))
 | bo (x:Bool):DOk .bo (.v (.bool x))
 | st (x:ByteArray) (h:x.size≤reachBytes):DOk .st (.v (.string x))
 | ns {k:IntKind} {zs:List Int} (h1:zs.length≤reachBytes) (h:∀ z∈zs,(Lit.int k z).wf=true):DOk (.ns k) (.ns k zs)
 | l {ss:List Shp} {rows:List (List D)} (h1:rows.length≤reachBytes) (h:∀ r∈rows,DOkL ss r):DOk (.l ss) (.l ss.length rows)
inductive DOkL:List Shp→List D→Prop
 | nil:DOkL [] []
 | cons {s:Shp} {d:D} {ss:List Shp} {ds:List D} (h:DOk s d) (t:DOkL ss ds):DOkL (s :: ss) (d :: ds)
end
theorem DOkL.len{ss:List Shp}{ds:List D}(h:DOkL ss ds):ds.length=ss.length:=by
 induction ss generalizing ds with
 | nil=>cases h;rfl
 | cons s ss ih=>cases h with|cons h t=>simp [ih t]
theorem DOkL.app{s1 s2:List Shp}{d1 d2:List D}(h1:DOkL s1 d1)(h2:DOkL s2 d2):DOkL (s1++s2) (d1++d2):=by
 induction s1 generalizing d1 with
 | nil=>cases h1;exact h2
 | cons s ss ih=>cases h1 with|cons h t=>exact .cons h (ih t)
theorem RdL.app{S:Nat→Prop}{w:World}{v1 v2:List Value}{d1 d2:List D}(h1:RdL S w v1 d1)(h2:RdL S w v2 d2):RdL S w (v1++v2) (d1++d2):=by
 induction h1 with
 | nil=>exact h2
 | cons h t ih=>exact .cons h ih
inductive Fits (P:Program):TypeId→List Shp→Prop
 | int {t:TypeId} {k:IntKind} (hu:P.underlying t=some (.int k)):Fits P t [.i k]
 | bool {t:TypeId} (hu:P.underlying t=some .bool):Fits P t [.bo]
 | str {t:TypeId} (hu:P.underlying t=some .string):Fits P t [.st]
 | nums {t e:TypeId} {k:IntKind} (hu:P.underlying t=some (.slice e)) (he:P.underlying e=some (.int k)) (ce:P.cellsOf e=1) (hb:Nat.ble 1 (P.bytesOf e)=true):Fits P t [.ns k]
 | rows {t e:TypeId} {ss:List Shp} (hu:P.underlying t=some (.slice e)) (hf:Fits P e ss) (ce:P.cellsOf e=ss.length) (h0:Nat.blt 0 ss.length=true) (hb:Nat.ble 1 (P.bytesOf e)=true):Fits P t [.l ss]
 | struct {t:TypeId} {fs:Array Field} {sss:List (List Shp)} (hu:P.underlying t=some (.struct fs)) (ce:P.cellsOf t=sss.flatten.length) (hl:sss.length=fs.size)
     (ho:∀ (i:Nat) (f:Field) (s:List Shp),fs[i]? = some f→sss[i]? = some s→f.offset=(sss.take i).flatten.length∧P.cellsOf f.type=s.length)
     (hf:∀ (i:Nat) (f:Field) (s:List Shp),fs[i]? = some f→sss[i]? = some s→Fits P f.type s):Fits P t sss.flatten
 | array {t e:TypeId} {n:Nat} {ss:List Shp} (hu:P.underlying t=some (.array n e)) (hf:Fits P e ss) (ce:P.cellsOf e=ss.length) (ct:P.cellsOf t=(List.replicate n ss).flatten.length):Fits P t (List.replicate n ss).flatten
inductive FitsL (P:Program):List Field→Nat→List (List Shp)→Prop
 | nil (o:Nat):FitsL P [] o []
 | cons {f:Field} {fs:List Field} {o:Nat} {s:List Shp} {ss:List (List Shp)} (ho:f.offset=o) (hc:P.cellsOf f.type=s.length) (hf:Fits P f.type s) (t:FitsL P fs (o+s.length) ss):FitsL P (f :: fs) o (s :: ss)
theorem FitsL.at{P:Program}{fs:List Field}{o:Nat}{ss:List (List Shp)}(h:FitsL P fs o ss):∀ (i:Nat) (f:Field) (s:List Shp),fs[i]? = some f→ss[i]? = some s→(f.offset=o+(ss.take i).flatten.length∧P.cellsOf f.type=s.length)∧Fits P f.type s:=by
 induction h with
 | nil o=>intro i f s h1;simp at h1
 | cons ho hc hf t ih =>
   intro i f s h1 h2
   cases i with
   | zero=>simp at h1 h2;subst h1;subst h2;exact⟨⟨by simpa using ho,hc⟩,hf⟩
   | succ i =>
     have:=ih i f s (by simpa using h1) (by simpa using h2)
     refine⟨⟨?_,this.1.2⟩,this.2⟩
     rw[this.1.1];simp;omega
theorem FitsL.len{P:Program}{fs:List Field}{o:Nat}{ss:List (List Shp)}(h:FitsL P fs o ss):ss.length=fs.length:=by
 induction h with
 | nil=>rfl
 | cons _ _ _ _ ih=>simp [ih]
theorem Fits.mk{P:Program}{t:TypeId}{fs:Array Field}{sss:List (List Shp)}{ss:List Shp}(hu:P.underlying t=some (.struct fs))(ce:P.cellsOf t=ss.length)(he:sss.flatten=ss)(h:FitsL P fs.toList 0 sss):Fits P t ss:=by
 subst he
 refine .struct hu ce (by simpa using h.len) (fun i f s h1 h2 =>?_) (fun i f s h1 h2=>(h.at i f s (by simpa using h1) h2).2)
 have:=(h.at i f s (by simpa using h1) h2).1
 exact⟨by rw[this.1,Nat.zero_add],this.2⟩
theorem Ae{S:Nat→Prop}{w:World}{cs:List Value}:∀ (sss:List (List Shp)) (o:Nat),o+sss.flatten.length=cs.length→
   (∀ i s,sss[i]? = some s→(∃ ds,RdL S w ((cs.drop (o+(sss.take i).flatten.length)).take s.length) ds∧DOkL s ds)∧∀ c∈(cs.drop (o+(sss.take i).flatten.length)).take s.length,c.oneCell'=true)→
   (∃ ds,RdL S w (cs.drop o) ds∧DOkL sss.flatten ds)∧∀ c∈cs.drop o,c.oneCell'=true
 | [],o,ho,_=>by
   have:cs.drop o=[]:=List.drop_of_length_le (by simp at ho;omega)
   rw[this]
   exact⟨⟨[],.nil,.nil⟩,by simp⟩
 | s :: r,o,ho,h=>by
   obtain⟨⟨d1,h1,h2⟩,h3⟩:=h 0 s rfl
   simp only [List.take_zero,List.flatten_nil,List.length_nil,Nat.add_zero] at h1 h3
   obtain⟨⟨d2,g1,g2⟩,g3⟩:=Ae (S:=S) (w:=w) (cs:=cs) r (o+s.length) (by rw[List.flatten_cons,List.length_append] at ho;omega) (fun i s' hi=>by
     have:=h (i+1) s' (by simpa using hi)
     simpa [Nat.add_assoc] using this)
   have e:cs.drop o=(cs.drop o).take s.length++cs.drop (o+s.length):=by
     rw[← List.drop_drop,List.take_append_drop]
   rw[e]
   refine⟨⟨d1++d2,h1.app g1,by simpa using h2.app g2⟩,fun c hc =>?_⟩
   rcases List.mem_append.1 hc with hc|hc
   · exact h3 c hc
   exact g3 c hc
theorem mT{H:Type}{P:Program}{e:TypeId}:∀ {l:List (DataW H)} {d:DataW H},d∈l→∀ n∈d.weights P e,n∈DataW.weightsAll P e l
 | x :: r,d,h,n,hn=>by
   simp only [DataW.weightsAll,List.mem_append]
   rcases List.mem_cons.1 h with rfl|h
   · exact .inl hn
   exact .inr (mT h n hn)
theorem vw{H:Type}{enc:TypeId×Value→H}{P:Program}{w:World}{base:Nat}{held:Bool}{t:TypeId}{ss:List Shp}(hf:Fits P t ss):∀ {fuel:Nat} {cs:List Value} {x:DataW H×List MemPlace},
   DataW.trod enc P w base (fun _=>true) held fuel t cs=some x→(∀ n∈x.1.weights P t,n≤reachBytes)→(∃ ds,RdL (fun _=>True) w cs ds∧DOkL ss ds)∧∀ c∈cs,c.oneCell'=true:=by
 induction hf with
 | int hu =>
   intro fuel cs x h hw
   obtain⟨n,rfl,rfl,hwf⟩:=DataW.trod_int hu h
   exact⟨⟨_,.cons (.v _) .nil,.cons (.i hwf) .nil⟩,fun c hc=>by rw[List.mem_singleton.1 hc];rfl⟩
 | bool hu =>
   intro fuel cs x h hw
   obtain⟨n,rfl,rfl⟩:=DataW.trod_bool hu h
   exact⟨⟨_,.cons (.v _) .nil,.cons (.bo _) .nil⟩,fun c hc=>by rw[List.mem_singleton.1 hc];rfl⟩
 | str hu =>
   intro fuel cs x h hw
   obtain⟨n,rfl,rfl,hm⟩:=DataW.trod_string hu h
   have:=hw n.data.toList.length (by simp [DataW.weights])
   exact⟨⟨_,.cons (.v _) .nil,.cons (.st _ (by simpa using this)) .nil⟩,fun c hc=>by rw[List.mem_singleton.1 hc];rfl⟩
 | @nums t e k hu he ce hb =>
   intro fuel cs x h hw
   have hb':1≤P.bytesOf e:=Nat.le_of_ble_eq_true hb
   rcases open_ints hu he ce h with ⟨rfl,rfl⟩|⟨a,l,c,zs,rfl,_,hl,hm,hz,rfl,hcell,hwz⟩
   · exact⟨⟨[.ns k []],.cons (Rd.nilN _ _ _ _) .nil,.cons (.ns (Nat.zero_le _) (by intro z hz;cases hz)) .nil⟩,fun c hc=>by rw[List.mem_singleton.1 hc];rfl⟩
   obtain⟨ys,h1,h2,h3⟩:=NumsS.ofRow (k:=k) (w:=w) (a:=some a) (len:=l) (cap:=c) (zs:=zs) (.inr ⟨_,rfl,hl,hm,by simpa using hz,hcell,hwz⟩)
   subst h2
   have hlen:=hw (((zs.take ys.length).length+(zs.drop ys.length).length)*P.bytesOf e) (by simp [DataW.weights,hu,lits])
   have hge:(zs.take ys.length).length+(zs.drop ys.length).length≤((zs.take ys.length).length+(zs.drop ys.length).length)*P.bytesOf e:=Nat.le_mul_of_pos_right _ hb'
   have hsum:(zs.take ys.length).length+(zs.drop ys.length).length=zs.length:=by rw[← List.length_append,List.take_append_drop]
   have hzl:zs.length=c:=by simpa using hz
   exact⟨⟨[.ns k ys],.cons h1 .nil,.cons (.ns (by omega) h3) .nil⟩,fun c hc=>by rw[List.mem_singleton.1 hc];rfl⟩
 | @rows t e ss hu hf ce h0 hb ih =>
   intro fuel cs x h hw
   have hb':1≤P.bytesOf e:=Nat.le_of_ble_eq_true hb
   rcases Deep.open_slice hu h with ⟨rfl,rfl⟩|⟨a,len,cap,m,n,DD,Pl,rfl,_,hl,hm,hmm,rfl,hx⟩
   · exact⟨⟨[.l ss.length []],.cons (.l0 none 0 _) .nil,.cons (.l (Nat.zero_le _) (by intro r hr;cases hr)) .nil⟩,fun c hc=>by rw[List.mem_singleton.1 hc];rfl⟩
   simp only [if_true] at hmm
   subst hmm
   rw[ce] at hx
   have hlen:=hw ((((List.range len).map DD).length+((List.range (m - len)).map fun j=>DD (len+j)).length)*P.bytesOf e) (by simp [DataW.weights,hu])
   have hge:(((List.range len).map DD).length+((List.range (m - len)).map fun j=>DD (len+j)).length)≤(((List.range len).map DD).length+((List.range (m - len)).map fun j=>DD (len+j)).length)*P.bytesOf e:=Nat.le_mul_of_pos_right _ hb'
   simp only [List.length_map,List.length_range] at hlen hge
   have each:∀ i,i<len→∃ y:List Value×List D,w.cells? base (a.add (i*ss.length)) ss.length=some y.1∧RdL (fun _=>True) w y.1 y.2∧DOkL ss y.2∧∀ c∈y.1,c.oneCell'=true:=by
     intro i hi
     obtain⟨cs',h1,h2⟩:=hx i (by omega)
     obtain⟨⟨ds,g1,g2⟩,g3⟩:=ih h2 (fun n' hn'=>hw n' (by
       simp only [DataW.weights,hu,List.mem_cons,List.mem_append]
       exact .inr (.inl (mT (List.mem_map.2 ⟨i,List.mem_range.2 hi,rfl⟩) n' hn'))))
     exact⟨(cs',ds),h1,g1,g2,g3⟩
   obtain⟨y,hy⟩:=Deep.choose_lt each
   have hrows:(((List.range len).map fun i=>(y i).2)).length=len:=by simp
   refine⟨⟨[.l ss.length ((List.range len).map fun i=>(y i).2)],.cons ?_ .nil,.cons (.l (by omega) (fun r hr =>?_)) .nil⟩,fun c hc=>by rw[List.mem_singleton.1 hc];rfl⟩
   · have h0':0<ss.length:=by simpa using h0
     by_cases hl0:len=0
     · subst hl0;exact .l0 _ _ _
     obtain⟨bb,off,spot⟩:=a
     have hc0:w.cell? ((⟨bb,off,spot⟩:Addr).add (0*ss.length+0))=some ((y 0).1[0]'(by have:=(World.cells?_some (hy 0 (by omega)).1).2.1;omega)):=by
       have h3:=(World.cells?_some (hy 0 (by omega)).1).2.2 0 h0'
       simp only [Addr.add_add] at h3
       rw[h3]
       exact List.getElem?_eq_getElem _
     have hspot:spot=none:=by simpa [Addr.add] using World.cell?_spot hc0
     subst hspot
     have hbl:=World.block_lt_of_cell? w _ hc0
     rw[Addr.add_mid] at hbl
     have hrd:=Rd.l (S:=fun _=>True) (w:=w) ss.length bb off m ((List.range len).map fun i=>(y i).2) (fun j q=>((y j).1[q]?).getD undef) trivial hbl (by rw[hrows];exact hl)
       (fun r hr=>by obtain⟨i,hi,rfl⟩:=List.mem_map.1 hr;exact(hy i (List.mem_range.1 hi)).2.2.1.len)
       (fun j q hj hq=>by
         have hj':j<len:=by omega
         obtain⟨e1,e2,e3,e4⟩:=hy j hj'
         obtain⟨-,f2,f3⟩:=World.cells?_some e1
         have:=f3 q hq
         rw[Addr.add_mid,Addr.add_mid] at this
         rw[this,List.getElem?_eq_getElem (by omega)]
         exact⟨rfl,e4 _ (List.getElem_mem _)⟩)
       (fun j q r d hj hq=>by
         have hj':j<len:=by have:=(List.getElem?_eq_some_iff.1 hj).1;omega
         obtain⟨e1,e2,e3,e4⟩:=hy j hj'
         simp [hj'] at hj
         subst hj
         have hql:=(List.getElem?_eq_some_iff.1 hq).1
         have hvl:=e2.len
         have hv:(y j).1[q]? = some ((y j).1[q]'(by omega)):=List.getElem?_eq_getElem (by omega)
         show Rd _ w (((y j).1[q]?).getD undef) d
         rw[hv]
         exact e2.get q _ d hv hq)
     rw[hrows] at hrd
     exact hrd
   obtain⟨i,hi,rfl⟩:=List.mem_map.1 hr
   exact(hy i (List.mem_range.1 hi)).2.2.1
 | @struct t fs sss hu ce hl ho hf ih =>
   intro fuel cs x h hw
   obtain⟨xs,n,rfl,rfl,hcl,hxl,hxs⟩:=DataW.trod_struct hu h
   have:=Ae (S:=fun _=>True) (w:=w) (cs:=cs) sss 0 (by rw[Nat.zero_add,hcl,ce]) (fun i s hi=>by
     have hil:i<sss.length:=(List.getElem?_eq_some_iff.1 hi).1
     have hfi:fs[i]? = some fs[i]:=Array.getElem?_eq_getElem (by omega)
     obtain⟨h1,h2⟩:=ho i _ s hfi hi
     have h3:=hxs i _ hfi
     have hxi:xs[i]? = some xs[i]:=List.getElem?_eq_getElem (by omega)
     rw[h1,h2,hxi] at h3
     rw[Nat.zero_add]
     refine ih i _ s hfi hi h3 (fun n' hn'=>hw n' ?_)
     simp only [DataW.weights,hu]
     exact DataW.weights_mem_each (j:=i) (t:=fs[i].type) (d:=xs[i].1) (by simp [hfi]) (by simp [hxi]) n' hn')
   simpa using this
 | @array t e k ss hu hf ce ct ih =>
   intro fuel cs x h hw
   obtain⟨xs,n,rfl,rfl,hcl,hxl,hxs⟩:=DataW.trod_array hu h
   have:=Ae (S:=fun _=>True) (w:=w) (cs:=cs) (List.replicate k ss) 0 (by rw[Nat.zero_add,hcl,ct]) (fun i s hi=>by
     obtain⟨hik,hs⟩:=List.getElem?_eq_some_iff.1 hi
     rw[List.length_replicate] at hik
     rw[List.getElem_replicate] at hs
     subst hs
     have h3:=hxs i hik
     have hxi:xs[i]? = some xs[i]:=List.getElem?_eq_getElem (by omega)
     rw[ce,hxi] at h3
     have hoff:((List.replicate k ss).take i).flatten.length=i*ss.length:=by
       rw[List.take_replicate,Nat.min_eq_left (by omega),List.length_flatten,List.map_replicate,List.sum_replicate_nat]
     rw[Nat.zero_add,hoff]
     refine ih h3 (fun n' hn'=>hw n' ?_)
     simp only [DataW.weights,hu]
     exact mT (d:=xs[i].1) (List.mem_map.2 ⟨xs[i],List.getElem_mem _,rfl⟩) n' hn')
   simpa using this
theorem open_val{H:Type}{enc:TypeId×Value→H}{P:Program}{w:World}{base:Nat}{held:Bool}{t:TypeId}{ss:List Shp}(hf:Fits P t ss){d:DataW H}{ps:List MemPlace}{cs:Array Value}
   (h:DataW.Trod enc P w base (fun _=>true) held t (.agg cs) d ps) (hw:∀ n∈d.weights P t,n≤reachBytes) :
   ∃ ds,RdL (fun _=>True) w cs.toList ds∧DOkL ss ds:=by
 obtain⟨fuel,h⟩:=h
 exact(vw hf h hw).1
theorem rows_map{α:Type}{f:α→List D}{Q:α→Prop}:∀ {rows:List (List D)},(∀ r∈rows,∃ a,r=f a∧Q a)→∃ al:List α,rows=al.map f∧∀ a∈al,Q a
 | [],_=>⟨[],rfl,by simp⟩
 | r :: rs,h=>by
   obtain⟨a,h1,h2⟩:=h r (by simp)
   obtain⟨al,h3,h4⟩:=rows_map (fun r' hr=>h r' (List.mem_cons_of_mem _ hr))
   exact⟨a :: al,by rw[h1,h3];rfl,fun x hx=>by rcases List.mem_cons.1 hx with rfl|hx;exact h2;exact h4 x hx⟩
theorem DOk.l_out{ss:List Shp}{d:D}(h:DOk (.l ss) d):∃ rows,d=.l ss.length rows∧rows.length≤reachBytes∧∀ r∈rows,DOkL ss r:=by cases h with|l h1 h2=>exact⟨_,rfl,h1,h2⟩
theorem DOk.ns_out{k:IntKind}{d:D}(h:DOk (.ns k) d):∃ zs,d=.ns k zs∧zs.length≤reachBytes∧∀ z∈zs,(Lit.int k z).wf=true:=by cases h with|ns h1 h2=>exact⟨_,rfl,h1,h2⟩
theorem DOk.i_out{k:IntKind}{d:D}(h:DOk (.i k) d):∃ z,d=.v (.int k z)∧(Lit.int k z).wf=true:=by cases h with|i h=>exact⟨_,rfl,h⟩
theorem DOkL.cons_out{s:Shp}{ss:List Shp}{ds:List D}(h:DOkL (s :: ss) ds):∃ d r,ds=d :: r∧DOk s d∧DOkL ss r:=by cases h with|cons h t=>exact⟨_,_,rfl,h,t⟩
theorem DOkL.nil_out{ds:List D}(h:DOkL [] ds):ds=[]:=by cases h;rfl
end
end Go.Proofs.YteglmahnkfgelaaGreat.K
