/- General laws of walks. -/
import Derived.Test.YteglmahnkfgelaaGreatG1
import Derived.Great.FillDense
namespace Go.Proofs.YteglmahnkfgelaaGreat.K
open Go.ChangeShapes Go.WideShapes Go.ChangeAt Go.RowKit
set_option linter.unusedVariables false
set_option linter.unusedSimpArgs false
set_option maxRecDepth 100000
set_option maxHeartbeats 4000000
set_option autoImplicit true
set_option relaxedAutoImplicit true
section
def evT(T:List (Nat×Value)):Operand→Option Value
 | .tmp t=>lk T t
 | .const v=>some v
 | .global g=>some (.pointer (some ⟨g,0,none⟩))
 | .func f=>some (.func (.func f) #[] #[])
structure Has (n:Nat) (T:List (Nat×Value)) (a:Act):Prop where
 d:a.defers=[]
 sz:a.tmps.size=n
 h:∀ t v,lk T t=some v→a.tmps.getD t undef=v
def rD{α:Type}:List α→Nat→Option α
 | [],_=>none
 | x :: _,0=>some x
 | _ :: t,i+1=>rD t i
theorem ph{α:Type}:∀ (l:List α) (i:Nat),l[i]? = rD l i
 | [],i=>by simp [rD]
 | x :: l,0=>by simp [rD]
 | x :: l,i+1=>by rw[List.getElem?_cons_succ];exact ph l i
section
variable {n:Nat} {T:List (Nat×Value)} {a:Act}
theorem Has.ev(h:Has n T a){x:Operand}{v:Value}(hx:evT T x=some v):a.eval x=v:=by
 cases x with
 | tmp t=>exact h.h t v hx
 | const u=>injection hx
 | global g=>injection hx
 | func f=>injection hx
theorem Has.put(h:Has n T a){t:Nat}(ht:Nat.blt t n=true)(v:Value):Has n ((t,v) :: T) (a.put (some t) v) where
 d:=h.d
 sz:=by show(a.tmps.setIfInBounds t v).size=n;rw[Array.size_setIfInBounds];exact h.sz
 h s u hs:=by
   have hlt:t<a.tmps.size:=by rw[h.sz];simpa [Nat.blt_eq] using ht
   rw[lT] at hs
   show(a.tmps.setIfInBounds t v).getD s undef=u
   by_cases he:t=s
   · rw[if_pos he] at hs
     injection hs with hs;subst hs;subst he
     simp [Array.getD,hlt]
   rw[if_neg he] at hs
   have:=h.h s u hs
   rw[← this]
   simp [Array.getD_eq_getD_getElem?,Array.getElem?_setIfInBounds,he]
theorem Has.sub(h:Has n T a){T':List (Nat×Value)}(hs:∀ t v,lk T' t=some v→lk T t=some v):Has n T' a:=⟨h.d,h.sz,fun t v e=>h.h t v (hs t v e)⟩
def tk{α:Type}(T:List (Nat×α)):List Nat→List (Nat×α)
 | [] => []
 | t :: l=>match lk T t with|some v=>(t,v) :: tk T l|none=>tk T l
theorem o0{α:Type}(T:List (Nat×α)):∀ (l:List Nat) (t:Nat) (v:α),lk (tk T l) t=some v→lk T t=some v
 | [],t,v,h=>by cases h
 | s :: l,t,v,h=>by
   unfold tk at h
   cases hs:lk T s with
   | none=>rw[hs] at h;exact o0 T l t v h
   | some u =>
     rw[hs] at h
     dsimp only at h
     rw[lT] at h
     by_cases he:s=t
     · rw[if_pos he] at h;injection h with h;subst h;subst he;exact hs
     rw[if_neg he] at h;exact o0 T l t v h
theorem Has.only(h:Has n T a)(l:List Nat):Has n (tk T l) a:=h.sub (o0 T l)
theorem tm{G:Prop}(h:Has n T a){t:Nat}{b:Bool}(hb:lk T t=some (.bool b))(ht:b=true→Has n ((t,.bool true) :: T) a→G)(hf:b=false→Has n ((t,.bool false) :: T) a→G):G:=by
 cases b with
 | true =>
   refine ht rfl ⟨h.d,h.sz,fun s v hs =>?_⟩
   rw[lT] at hs
   split at hs
   · rename_i e;subst e;injection hs with hs;rw[← hs];exact h.h _ _ hb
   exact h.h s v hs
 | false =>
   refine hf rfl ⟨h.d,h.sz,fun s v hs =>?_⟩
   rw[lT] at hs
   split at hs
   · rename_i e;subst e;injection hs with hs;rw[← hs];exact h.h _ _ hb
   exact h.h s v hs
end
section
variable {P:Program} {n:Nat} {T:List (Nat×Value)} {a:Act} {w:World} {d:Option Tmp} {tt:TypeId} {pos:String} {af:Array Edge} {gd:Option (Nat×Bool)}
abbrev Yl(P:Program)(a:Act)(w:World)(o:Oper)(v:Value):Prop:=(execOp a.eval o).run P w=.ok (.value v) w
theorem xH{t:TypeId}(hu:P.underlying t=some .bool)(b c:Bool)(w:World):(Op.equal t (.bool b) (.bool c)).run P w=.ok (b == c) w:=by
 show(Op.equalIn (9999+1) t (.bool b) (.bool c)).run P w=_
 generalize 9999=m
 simp [Op.equalIn,run_underlying hu]
theorem xI{t e:TypeId}(hu:P.underlying t=some (.pointer e))(b:Option Addr)(w:World):(Op.equal t (.pointer b) (.pointer none)).run P w=.ok b.isNone w:=by
 show(Op.equalIn (9999+1) t (.pointer b) (.pointer none)).run P w=_
 generalize 9999=m
 cases b <;> simp [Op.equalIn,run_underlying hu]
theorem t9(h:Has n T a){x:Operand}{v:Value}(hx:evT T x=some v):Yl P a w ⟨d,.move x,tt,pos,af,gd⟩ v:=by
 show(execOp _ _).run P w=_;simp [execOp,h.ev hx]
theorem sA(h:Has n T a){x:Operand}{v:Value}(hx:evT T x=some v):Yl P a w ⟨d,.assign x,tt,pos,af,gd⟩ v:=by
 show(execOp _ _).run P w=_;simp [execOp,h.ev hx]
theorem rG(h:Has n T a){c x y:Operand}{v:Value}(hc:evT T c=some (.bool true))(hx:evT T x=some v):Yl P a w ⟨d,.pick c x y,tt,pos,af,gd⟩ v:=by
 show(execOp _ _).run P w=_;simp [execOp,h.ev hx,h.ev hc,asBool]
theorem n0(h:Has n T a){c x y:Operand}{v:Value}(hc:evT T c=some (.bool false))(hx:evT T y=some v):Yl P a w ⟨d,.pick c x y,tt,pos,af,gd⟩ v:=by
 show(execOp _ _).run P w=_;simp [execOp,h.ev hx,h.ev hc,asBool]
theorem xJ(h:Has n T a){t:TypeId}{x:Operand}{b:Bool}(hx:evT T x=some (.bool b)):Yl P a w ⟨d,.unOp .not t x,tt,pos,af,gd⟩ (.bool !b):=by
 show(execOp _ _).run P w=_;simp [execOp,h.ev hx,Op.unary]
theorem xK(h:Has n T a){t e:TypeId}{x:Operand}{p:Option Addr}{l c:Nat}(hx:evT T x=some (.slice p l c))(hu:P.underlying t=some (.slice e)):Yl P a w ⟨d,.call { callee:=.builtin .len,args:=#[x],argTypes:=#[t] },tt,pos,af,gd⟩ (.int .i64 l):=by
 show(execOp _ _).run P w=_;simp [execOp,resolve,invoke,builtin,h.ev hx,Builtin.len_,run_underlying hu,goInt]
section
variable {t t2:TypeId} {x y:Operand} {k:IntKind} {p q r:Int}
theorem xL(h:Has n T a)(hx:evT T x=some (.int k p))(hy:evT T y=some (.int k q))(hr:k.wrap (p+q)=r):Yl P a w ⟨d,.binOp .add t x y t2,tt,pos,af,gd⟩ (.int k r):=by
 show(execOp _ _).run P w=_;simp [execOp,eqGuard,binOp,Op.intArith,h.ev hx,h.ev hy,hr]
theorem xM(h:Has n T a)(hx:evT T x=some (.int k p))(hy:evT T y=some (.int k q))(hr:k.wrap (p - q)=r):Yl P a w ⟨d,.binOp .sub t x y t2,tt,pos,af,gd⟩ (.int k r):=by
 show(execOp _ _).run P w=_;simp [execOp,eqGuard,binOp,Op.intArith,h.ev hx,h.ev hy,hr]
theorem zg(h:Has n T a)(hx:evT T x=some (.int k p))(hy:evT T y=some (.int k q))(hr:k.wrap (p*q)=r):Yl P a w ⟨d,.binOp .mul t x y t2,tt,pos,af,gd⟩ (.int k r):=by
 show(execOp _ _).run P w=_;simp [execOp,eqGuard,binOp,Op.intArith,h.ev hx,h.ev hy,hr]
theorem zh(h:Has n T a)(hx:evT T x=some (.int k p))(hy:evT T y=some (.int k q))(h0:q≠0)(hr:k.wrap (p.tdiv q)=r):Yl P a w ⟨d,.binOp .quo t x y t2,tt,pos,af,gd⟩ (.int k r):=by
 show(execOp _ _).run P w=_;simp [execOp,eqGuard,binOp,Op.intDiv,h.ev hx,h.ev hy,hr,h0]
theorem xN(h:Has n T a)(hx:evT T x=some (.int k p))(hy:evT T y=some (.int k q))(h0:q≠0)(hr:p.tmod q=r):Yl P a w ⟨d,.binOp .rem t x y t2,tt,pos,af,gd⟩ (.int k r):=by
 show(execOp _ _).run P w=_;simp [execOp,eqGuard,binOp,Op.intDiv,h.ev hx,h.ev hy,hr,h0]
theorem zi(h:Has n T a)(hx:evT T x=some (.int k p))(hy:evT T y=some (.int k q))(hr:k.wrap (BitVec.ofInt k.bits p &&& BitVec.ofInt k.bits q).toNat=r):Yl P a w ⟨d,.binOp .and t x y t2,tt,pos,af,gd⟩ (.int k r):=by
 show(execOp _ _).run P w=_;simp only [execOp,eqGuard,binOp,Op.intBits,h.ev hx,h.ev hy,hr];simp
theorem AH(h:Has n T a)(hx:evT T x=some (.int k p))(hy:evT T y=some (.int k q))(hr:k.wrap (BitVec.ofInt k.bits p ||| BitVec.ofInt k.bits q).toNat=r):Yl P a w ⟨d,.binOp .or t x y t2,tt,pos,af,gd⟩ (.int k r):=by
 show(execOp _ _).run P w=_;simp only [execOp,eqGuard,binOp,Op.intBits,h.ev hx,h.ev hy,hr];simp
theorem zj(h:Has n T a){yk:IntKind}(hx:evT T x=some (.int k p))(hy:evT T y=some (.int yk q))(h0:0≤q)(hr:k.wrap (p*2 ^ min q.toNat k.bits)=r):Yl P a w ⟨d,.binOp .shl t x y t2,tt,pos,af,gd⟩ (.int k r):=by
 have:¬ q<0:=by omega
 show(execOp _ _).run P w=_;simp only [execOp,eqGuard,binOp,Op.shift,h.ev hx,h.ev hy,hr,if_neg this];simp
theorem zk(h:Has n T a){yk:IntKind}(hx:evT T x=some (.int k p))(hy:evT T y=some (.int yk q))(h0:0≤q)(hr:p.fdiv (2 ^ min q.toNat k.bits)=r):Yl P a w ⟨d,.binOp .shr t x y t2,tt,pos,af,gd⟩ (.int k r):=by
 have:¬ q<0:=by omega
 show(execOp _ _).run P w=_;simp only [execOp,eqGuard,binOp,Op.shift,h.ev hx,h.ev hy,hr,if_neg this];simp
theorem xO(h:Has n T a)(hx:evT T x=some (.int k p))(hy:evT T y=some (.int k q)):Yl P a w ⟨d,.binOp .lss t x y t2,tt,pos,af,gd⟩ (.bool (decide (p<q))):=by
 show(execOp _ _).run P w=_;simp [execOp,eqGuard,binOp,Op.intCmp,h.ev hx,h.ev hy]
theorem xP(h:Has n T a)(hx:evT T x=some (.int k p))(hy:evT T y=some (.int k q)):Yl P a w ⟨d,.binOp .leq t x y t2,tt,pos,af,gd⟩ (.bool (decide (p≤q))):=by
 show(execOp _ _).run P w=_;simp [execOp,eqGuard,binOp,Op.intCmp,h.ev hx,h.ev hy]
theorem xQ(h:Has n T a)(hx:evT T x=some (.int k p))(hy:evT T y=some (.int k q)):Yl P a w ⟨d,.binOp .gtr t x y t2,tt,pos,af,gd⟩ (.bool (decide (q<p))):=by
 show(execOp _ _).run P w=_;simp [execOp,eqGuard,binOp,Op.intCmp,h.ev hx,h.ev hy]
theorem xR(h:Has n T a)(hx:evT T x=some (.int k p))(hy:evT T y=some (.int k q)):Yl P a w ⟨d,.binOp .geq t x y t2,tt,pos,af,gd⟩ (.bool (decide (q≤p))):=by
 show(execOp _ _).run P w=_;simp [execOp,eqGuard,binOp,Op.intCmp,h.ev hx,h.ev hy]
theorem xS(h:Has n T a)(hx:evT T x=some (.int k p))(hy:evT T y=some (.int k q)):Yl P a w ⟨d,.binOp .eql t x y t2,tt,pos,af,gd⟩ (.bool (decide (p=q))):=by
 have e:(p == q)=decide (p=q):=rfl
 show(execOp _ _).run P w=_;simp [execOp,eqGuard,binOp,Op.intCmp,h.ev hx,h.ev hy,e]
theorem xT(h:Has n T a)(hx:evT T x=some (.int k p))(hy:evT T y=some (.int k q)):Yl P a w ⟨d,.binOp .neq t x y t2,tt,pos,af,gd⟩ (.bool (decide (p≠q))):=by
 have e:(p != q)=decide (p≠q):=by simp [bne];rfl
 show(execOp _ _).run P w=_;simp only [execOp,eqGuard,binOp,Op.intCmp,h.ev hx,h.ev hy,e];simp
theorem wY(h:Has n T a){b c:Bool}(hx:evT T x=some (.bool b))(hy:evT T y=some (.bool c))(hu:P.underlying t=some .bool):Yl P a w ⟨d,.binOp .neq t x y t2,tt,pos,af,gd⟩ (.bool (!(b == c))):=by
 show(execOp _ _).run P w=_
 simp [execOp,eqGuard,binOp,h.ev hx,h.ev hy,xH hu]
theorem zl(h:Has n T a){b c:ByteArray}(hx:evT T x=some (.string b))(hy:evT T y=some (.string c)):Yl P a w ⟨d,.binOp .eql t x y t2,tt,pos,af,gd⟩ (.bool (b.toList == c.toList)):=by
 show(execOp _ _).run P w=_;simp [execOp,eqGuard,binOp,Op.stringOp,h.ev hx,h.ev hy]
theorem ua(h:Has n T a){b c:ByteArray}(hx:evT T x=some (.string b))(hy:evT T y=some (.string c)):Yl P a w ⟨d,.binOp .neq t x y t2,tt,pos,af,gd⟩ (.bool (!(b.toList == c.toList))):=by
 show(execOp _ _).run P w=_;simp [execOp,eqGuard,binOp,Op.stringOp,h.ev hx,h.ev hy]
theorem wZ(h:Has n T a){e:TypeId}{b:Option Addr}(hx:evT T x=some (.pointer b))(hy:evT T y=some (.pointer none))(hu:P.underlying t=some (.pointer e)):Yl P a w ⟨d,.binOp .eql t x y t2,tt,pos,af,gd⟩ (.bool b.isNone):=by
 show(execOp _ _).run P w=_
 simp [execOp,eqGuard,binOp,h.ev hx,h.ev hy,xI hu]
theorem xe(h:Has n T a){s e:TypeId}{k':IntKind}{ds:TypeDesc}(hx:evT T x=some (.int k p))(hs:P.underlying s=some ds)(hd:P.underlying e=some (.int k'))(hr:k'.wrap p=r):Yl P a w ⟨d,.convert s e x,tt,pos,af,gd⟩ (.int k' r):=by
 show(execOp _ _).run P w=_
 simp [execOp,h.ev hx,convert,run_underlying hs,run_underlying hd,Conv.intToInt,hr]
end
theorem qP(h:Has n T a){x:Operand}{vs:Array Value}{i:Nat}{v:Value}(hx:evT T x=some (.tuple vs))(hv:rD vs.toList i=some v):Yl P a w ⟨d,.extract x i,tt,pos,af,gd⟩ v:=by
 have hv:vs[i]? = some v:=by rw[← hv,← ph];simp
 show(execOp _ _).run P w=_;simp [execOp,h.ev hx,Instr.extract,hv]
theorem oL(h:Has n T a){x:Operand}{p:Addr}(hx:evT T x=some (.pointer (some p))):Yl P a w ⟨d,.nilCheck x,tt,pos,af,gd⟩ (.pointer (some p)):=by
 show(execOp _ _).run P w=_;simp [execOp,h.ev hx]
theorem mh(h:Has n T a){t:TypeId}{x:Operand}{i g o:Nat}{fs:Array Field}{f:Field}{s off:Nat}(hx:evT T x=some (.pointer (some ⟨g,o,none⟩)))(hu:P.underlying t=some (.struct fs))(hf:fs[i]? = some f)(hs:(P.info? f.type).map (·.size)=some (s+1))(ho:o+f.offset=off):Yl P a w ⟨d,.fieldAddr t x i,tt,pos,af,gd⟩ (.pointer (some ⟨g,off,none⟩)):=by
 subst ho
 show(execOp _ _).run P w=_
 cases hq:P.info? f.type with
 | none=>simp [hq] at hs
 | some j =>
   have hj:j.size=s+1:=by simpa [hq] using hs
   simp [execOp,h.ev hx,Instr.fieldAt,run_underlying hu,hf,Instr.sureAddr,fieldPlace,sizeOf,typeInfo,hq,hj,Addr.add_mid]
theorem nE(h:Has n T a){t:TypeId}{x:Operand}{i g o:Nat}{fs:Array Field}{f:Field}{s:Nat}(q:Nat)(hx:evT T x=some (.pointer (some ⟨g,o,none⟩)))(hu:P.underlying t=some (.struct fs))(hf:fs[i]? = some f)(hs:(P.info? f.type).map (·.size)=some (s+1))(hq:f.offset=q):Yl P a w ⟨d,.fieldAddr t x i,tt,pos,af,gd⟩ (.pointer (some ⟨g,o+q,none⟩)):=
 mh h hx hu hf hs (by rw[hq])
theorem ub{t:TypeId}{td:TypeDesc}(hu:P.underlying t=some td)(w:World):(isAgg t).run P w=.ok td.isRow w:=by
 unfold isAgg
 rw[Sem.run_bind,run_underlying hu w]
 cases td <;> simp_all
theorem vB(h:Has n T a){t e:TypeId}{x y:Operand}{p:Option Addr}{l c:Nat}{k:IntKind}{q:Int}(hx:evT T x=some (.slice p l c))(hy:evT T y=some (.int k q))(hu:P.underlying t=some (.slice e)){s:Nat}(hs:(P.info? e).map (·.size)=some s)(h0:0≤q)(h1:q≤c):Yl P a w ⟨d,.slice t x none (some y) none,tt,pos,af,gd⟩ (.slice p q.toNat c):=by
 show(execOp _ _).run P w=_
 cases hq:P.info? e with
 | none=>simp [hq] at hs
 | some j =>
   have hp:(Option.map (fun x:Addr=>x.add 0) p)=p:=by cases p <;> simp [Addr.add]
   simp [execOp,h.ev hx,h.ev hy,Instr.sliceAt,run_underlying hu,Instr.slice,Instr.sliceBounds,Instr.sliceBound,asIntOf,h0,h1,sizeOf,typeInfo,hq,hp]
theorem vC(h:Has n T a){t e:TypeId}{x y:Operand}{p:Option Addr}{l c:Nat}{k:IntKind}{q:Int}(hx:evT T x=some (.slice p l c))(hy:evT T y=some (.int k q))(hu:P.underlying t=some (.slice e)){s:Nat}(hs:(P.info? e).map (·.size)=some s)(h0:0≤q)(h1:q≤l):Yl P a w ⟨d,.slice t x (some y) none none,tt,pos,af,gd⟩ (.slice (if c=q.toNat then p else p.map (·.add (q.toNat*s))) (l - q.toNat) (c - q.toNat)):=by
 show(execOp _ _).run P w=_
 cases hq:P.info? e with
 | none=>simp [hq] at hs
 | some j =>
   have hj:j.size=s:=by simpa [hq] using hs
   simp [execOp,h.ev hx,h.ev hy,Instr.sliceAt,run_underlying hu,Instr.slice,Instr.sliceBounds,Instr.sliceBound,asIntOf,h0,h1,sizeOf,typeInfo,hq,hj]
def evP(T:List (Nat×Value)):List (Nat×Operand)→Option (List (Nat×Value))
 | []=>some []
 | (i,x) :: l=>match evT T x,evP T l with
   | some v,some r=>some ((i,v) :: r)
   | _,_=>none
def evA(T:List (Nat×Value)):List Operand→Option (List Value)
 | []=>some []
 | x :: l=>match evT T x,evA T l with
   | some v,some r=>some (v :: r)
   | _,_=>none
theorem Has.evP(h:Has n T a):∀ {l:List (Nat×Operand)} {pl:List (Nat×Value)},evP T l=some pl→l.map (fun x=>(x.1,a.eval x.2))=pl
 | [],pl,e=>by cases e;rfl
 | (i,x) :: l,pl,e=>by
   unfold K.evP at e
   cases hx:evT T x with
   | none=>rw[hx] at e;cases e
   | some v =>
     cases hl:K.evP T l with
     | none=>rw[hx,hl] at e;cases e
     | some r =>
       rw[hx,hl] at e
       injection e with e;subst e
       rw[List.map_cons,h.evP hl,h.ev hx]
theorem Has.evA(h:Has n T a):∀ {l:List Operand} {vs:List Value},evA T l=some vs→l.map a.eval=vs
 | [],vs,e=>by cases e;rfl
 | x :: l,vs,e=>by
   unfold K.evA at e
   cases hx:evT T x with
   | none=>rw[hx] at e;cases e
   | some v =>
     cases hl:K.evA T l with
     | none=>rw[hx,hl] at e;cases e
     | some r =>
       rw[hx,hl] at e
       injection e with e;subst e
       rw[List.map_cons,h.evA hl,h.ev hx]
def l9:List Value→List (Nat×Value)→List Value
 | z,[]=>z
 | z,(i,v) :: r=>l9 (z.set i v) r
def lR(P:Program)(t:TypeId)(z:List Value):Bool:=
 match P.info? t,P.underlying t with
 | some it,some (.struct fs)=>(match it.zero with|some (.agg c)=>c.size == z.length|some _=>false|none=>false) && fs.size == z.length && (List.range fs.size).all fun i=>match fs[i]? with
   | some f=>f.offset == i && (match P.info? f.type with|some j=>j.size == 1|none=>false)
   | none=>false
 | _,_=>false
theorem sB(place:Nat→Option (Nat×Nat))(N:Nat)(hp:∀ i,i<N→place i=some (i,1)):∀ (pl:List (Nat×Value)) (z:List Value),z.length=N→pl.all (fun p=>decide (p.1<N) && p.2.oneCell')=true→(∀ p∈pl,p.2.cells=#[p.2])→Instr.fill place z.toArray pl=some (l9 z pl).toArray
 | [],z,_,_,_=>rfl
 | (i,v) :: r,z,hz,ha,hc=>by
   simp only [List.all_cons,Bool.and_eq_true,decide_eq_true_eq] at ha
   have hv:v.cells=#[v]:=hc (i,v) (by simp)
   rw[Instr.fill,hp i ha.1.1,hv]
   have h1:¬ (z.toArray.size<i+1):=by simp;omega
   simp only [List.size_toArray,List.length_cons,List.length_nil,Nat.zero_add,ne_eq,not_true_eq_false,decide_false,Bool.false_or,gt_iff_lt,decide_eq_true_eq]
   rw[if_neg (by omega)]
   have:=sB place N hp r (z.set i v) (by simp [hz]) (by simpa using ha.2) (fun p hq=>hc p (by simp [hq]))
   rw[l9,← this]
   congr 1
   simp
theorem pk{v:Value}(h:v.oneCell'=true):v.cells=#[v]:=by cases v <;> first|rfl|cases h
theorem tn{t:TypeId}{z:List Value}(hz:((P.info? t).bind (·.zero)).map (·.cells.toList)=some z)(hf:lR P t z=true)(pl:List (Nat×Value))(hp:pl.all (fun p=>decide (p.1<z.length) && p.2.oneCell')=true):P.built t pl=some (l9 z pl).toArray:=by
 unfold lR at hf
 unfold Program.built
 cases hi:P.info? t with
 | none=>simp [hi] at hf
 | some it =>
   cases hu:P.underlying t with
   | none=>simp [hi,hu] at hf
   | some td =>
     cases td <;> try (simp [hi,hu] at hf;done)
     case struct fs =>
       cases hzz:it.zero with
       | none=>simp [hi,hzz] at hz
       | some zz =>
         simp only [hi,hu,hzz,Bool.and_eq_true,beq_iff_eq,List.all_eq_true,List.mem_range] at hf
         obtain⟨⟨-,hs⟩,hall⟩:=hf
         have hzl:zz.cells.toList=z:=by simpa [hi,hzz] using hz
         have hzc:zz.cells=z.toArray:=by rw[← hzl]
         have hpl:fs.toList.mapM (fun f=>(P.info? f.type).map fun i=>(f.offset,i.size))=some (fs.toList.map (fun f=>(f.offset,1))):=by
           have:∀ f∈fs.toList,((P.info? f.type).map fun i=>(f.offset,i.size))=some (f.offset,1):=by
             intro f hf
             obtain⟨i,hi1,hi2⟩:=List.getElem_of_mem hf
             have:=hall i (by simpa using hi1)
             rw[Array.getElem?_eq_getElem (by simpa using hi1)] at this
             have e:fs[i]'(by simpa using hi1)=f:=by simpa using hi2
             rw[e] at this
             simp only [Bool.and_eq_true,beq_iff_eq] at this
             cases hq:P.info? f.type with
             | none=>simp [hq] at this
             | some j=>simp only [hq,beq_iff_eq] at this;simp [this.2]
           have gen:∀ l:List Field,(∀ f∈l,((P.info? f.type).map fun i=>(f.offset,i.size))=some (f.offset,1))→l.mapM (fun f=>(P.info? f.type).map fun i=>(f.offset,i.size))=some (l.map (fun f=>(f.offset,1))):=by
             intro l
             induction l with
             | nil=>intro _;rfl
             | cons f l ih=>intro h;rw[List.mapM_cons,h f (by simp),ih (fun g hg=>h g (by simp [hg]))];rfl
           exact gen _ this
         simp only [hzz,hpl,hzc]
         refine sB _ z.length (fun i hi' =>?_) pl z rfl hp (fun p hq=>pk (by
           have:=List.all_eq_true.1 hp p hq
           simp only [Bool.and_eq_true] at this
           exact this.2))
         have hlt:i<fs.size:=by omega
         have:=hall i hlt
         rw[Array.getElem?_eq_getElem hlt] at this
         simp only [Bool.and_eq_true,beq_iff_eq] at this
         simp [hlt,this.1]
theorem uc(h:Has n T a){t:TypeId}{parts:Array (Nat×Operand)}{z cs:List Value}{pl:List (Nat×Value)}(hp:K.evP T parts.toList=some pl)(hz:((P.info? t).bind (·.zero)).map (·.cells.toList)=some z)(hf:lR P t z=true)(h1:pl.all (fun p=>decide (p.1<z.length) && p.2.oneCell')=true)(hc:l9 z pl=cs):Yl P a w ⟨d,.build t parts,tt,pos,af,gd⟩ (.agg cs.toArray):=by
 have hb:=tn hz hf pl h1
 have hpl:=h.evP hp
 show(execOp _ _).run P w=_
 have hr:=run_build (P:=P) w t (parts.map fun(i,x)=>(i,a.eval x)) (l9 z pl).toArray (by rw[Array.toList_map];rw[← hpl] at hb ⊢;exact hb)
 simp only [execOp,Sem.run_bind,hr,Result.andThen_ok,Sem.run_pure,hc]
end
end
section
inductive RdL (S:Nat→Prop) (w:World):List Value→List D→Prop
 | nil:RdL S w [] []
 | cons {v:Value} {d:D} {vs:List Value} {ds:List D} (h:Rd S w v d) (t:RdL S w vs ds):RdL S w (v :: vs) (d :: ds)
theorem RdL.of{S:Nat→Prop}{w:World}:∀ {vs:List Value} {ds:List D},vs.length=ds.length→(∀ (q:Nat) (v:Value) (d:D),vs[q]? = some v→ds[q]? = some d→Rd S w v d)→RdL S w vs ds
 | [],[],_,_=>.nil
 | v :: vs,d :: ds,hl,h=>.cons (h 0 v d rfl rfl) (RdL.of (by simpa using hl) (fun q v d h1 h2=>h (q+1) v d (by simpa using h1) (by simpa using h2)))
 | [],_ :: _,hl,_=>by simp at hl
 | _ :: _,[],hl,_=>by simp at hl
theorem RdL.len{S:Nat→Prop}{w:World}{vs:List Value}{ds:List D}(h:RdL S w vs ds):vs.length=ds.length:=by
 induction h with
 | nil=>rfl
 | cons _ _ ih=>simp [ih]
theorem RdL.get{S:Nat→Prop}{w:World}{vs:List Value}{ds:List D}(h:RdL S w vs ds):∀ (q:Nat) (v:Value) (d:D),vs[q]? = some v→ds[q]? = some d→Rd S w v d:=by
 induction h with
 | nil=>intro q v d h1;simp at h1
 | cons hh _ ih =>
   intro q v d h1 h2
   cases q with
   | zero=>simp at h1 h2;subst h1;subst h2;exact hh
   | succ q=>exact ih q v d (by simpa using h1) (by simpa using h2)
theorem RdL.mono{S S':Nat→Prop}{w W:World}{vs:List Value}{ds:List D}(h:RdL S w vs ds)(hs:w.heap.size≤W.heap.size)(hk:∀ b,b<w.heap.size→S b→W.heap[b]? = w.heap[b]?∧S' b):RdL S' W vs ds:=by
 induction h with
 | nil=>exact .nil
 | cons hh _ ih=>exact .cons (hh.mono hs hk) ih
section
variable {P:Program} {n:Nat} {T:List (Nat×Value)} {a:Act} {w w0:World} {X:Cx} {M:Mm} {tt:TypeId} {pos:String} {af:Array Edge} {gd:Option (Nat×Bool)} {ops:Array Oper} {rest:List Oper} {Q:Exit→Act→World→Prop} {K:Act→World→Prop}
theorem AO{d:Tmp}{op:Op}{v:Value}(ha:Has n T a)(ht:Nat.blt d n=true)(hy:Yl P a w ⟨some d,op,tt,pos,af,none⟩ v)(h:∀ a',Has n ((d,v) :: T) a'→wpList P ops Q rest a' w):wpList P ops Q (⟨some d,op,tt,pos,af,none⟩ :: rest) a w:=by
 refine wpList_plain rfl fun K hK =>?_
 show Oper.upon P _ a K Q ((execOp a.eval _).run P w)
 rw[hy]
 exact hK _ _ (h _ (ha.put ht v))
theorem Has.yielded(ha:Has n T a){j t:Nat}{b:Bool}(hj:(ops[j]?).bind (·.dst)=some t)(hb:lk T t=some (.bool b))(ht:Nat.blt t n=true):Go.yielded ops a.tmps j=some b:=by
 have hlt:t<a.tmps.size:=by rw[ha.sz];simpa [Nat.blt_eq] using ht
 have:=ha.h t _ hb
 unfold Go.yielded
 rw[hj]
 show(match a.tmps[t]? with|some (.bool b)=>some b|_=>none)=some b
 rw[Array.getElem?_eq_getElem hlt]
 have e:a.tmps[t]=.bool b:=by simpa [Array.getD,hlt] using this
 rw[e]
theorem AP{d:Tmp}{op:Op}{v:Value}{j t:Nat}{b:Bool}(ha:Has n T a)(hj:(ops[j]?).bind (·.dst)=some t)(hb:lk T t=some (.bool b))(ht2:Nat.blt t n=true)(ht:Nat.blt d n=true)(hy:Yl P a w ⟨some d,op,tt,pos,af,some (j,b)⟩ v)(h:∀ a',Has n ((d,v) :: T) a'→wpList P ops Q rest a' w):wpList P ops Q (⟨some d,op,tt,pos,af,some (j,b)⟩ :: rest) a w:=by
 refine wpList_step fun K hK =>?_
 rw[if_pos (by simp [Region.wanted,ha.yielded hj hb ht2])]
 show Oper.upon P _ a K Q ((execOp a.eval _).run P w)
 rw[hy]
 exact hK _ _ (h _ (ha.put ht v))
theorem Ag{o:Oper}{j t:Nat}{b:Bool}(ha:Has n T a)(hg:o.guard=some (j,b))(hj:(ops[j]?).bind (·.dst)=some t)(hb:lk T t=some (.bool b))(ht2:Nat.blt t n=true)(h:∀ K:Act→World→Prop,(∀ a w,wpList P ops Q rest a w→K a w)→o.wp P a w K Q):wpList P ops Q (o :: rest) a w:=by
 refine wpList_step fun K hK =>?_
 rw[if_pos (by simp [Region.wanted,hg,ha.yielded hj hb ht2])]
 exact h K hK
theorem xV{d:Tmp}{op:Op}{j t:Nat}{b:Bool}(ha:Has n T a)(hj:(ops[j]?).bind (·.dst)=some t)(hb:lk T t=some (.bool !b))(ht2:Nat.blt t n=true)(ht:Nat.blt d n=true)(h:∀ a',Has n ((d,undef) :: T) a'→wpList P ops Q rest a' w):wpList P ops Q (⟨some d,op,tt,pos,af,some (j,b)⟩ :: rest) a w:=by
 refine wpList_step fun K hK =>?_
 rw[if_neg (by simp [Region.wanted,ha.yielded hj hb ht2])]
 exact hK _ _ (h _ (ha.put ht _))
/-! ### Reading -/
theorem oq{w:World}{t:TypeId}{td:TypeDesc}{p:Addr}{v:Value}(hu:P.underlying t=some td)(hr:td.isRow=false)(hc:w.cell? p=some v):(loadVar t p).run P w=.ok v w:=by
 simp [loadVar,ub hu,hr,hc]
theorem mH(ha:Has n T a)(m:MemOk X w0 M w){d:Option Tmp}{t:TypeId}{td:TypeDesc}{x:Operand}{i g o:Nat}{e:TypeId}{cs:List Value}{v:Value}(hm:lk M i=some (.box g e cs))(hx:evT T x=some (.pointer (some ⟨g,o,none⟩)))(hv:cs[o]? = some v)(hu:P.underlying t=some td)(hr:td.isRow=false):Yl P a w ⟨d,.load t x,tt,pos,af,gd⟩ v:=by
 have hc:w.cell? ⟨g,o,none⟩=some v:=by rw[(m.ok i _ hm).1.cell];exact hv
 show(execOp _ _).run P w=_
 simp [execOp,ha.ev hx,Instr.loadAt,Instr.sureAddr,oq hu hr hc]
theorem mI(ha:Has n T a)(m:MemOk X w0 M w){d:Option Tmp}{t:TypeId}{td:TypeDesc}{x:Operand}{i g o k:Nat}{e:TypeId}{cs vs:List Value}(hm:lk M i=some (.box g e cs))(hx:evT T x=some (.pointer (some ⟨g,o,none⟩)))(hu:P.underlying t=some td)(hr:td.isRow=true)(hs:(P.info? t).map (·.size)=some k)(hk:o+k≤cs.length)(hv:(cs.drop o).take k=vs):Yl P a w ⟨d,.load t x,tt,pos,af,gd⟩ (.agg vs.toArray):=by
 have hl:vs.length=k:=by rw[← hv,List.length_take,List.length_drop];omega
 have hc:w.rangeAt g o vs:=fun j v hj=>by
   have hjl:=(List.getElem?_eq_some_iff.1 hj).1
   rw[(m.ok i _ hm).1.cell,← hj,← hv,List.getElem?_take,if_pos (by omega),List.getElem?_drop]
 show(execOp _ _).run P w=_
 rw[ot t x rfl g o (ha.ev hx) vs td hc hu hr (by rw[hs,hl])]
theorem ql(ha:Has n T a)(m:MemOk X w0 M w){d:Option Tmp}{t:TypeId}{td:TypeDesc}{x:Operand}{i b o q:Nat}{vs:List Value}{v:Value}(hm:lk M i=some (.cel b o vs))(hx:evT T x=some (.pointer (some ⟨b,o+q,none⟩)))(hv:vs[q]? = some v)(hu:P.underlying t=some td)(hr:td.isRow=false):Yl P a w ⟨d,.load t x,tt,pos,af,gd⟩ v:=by
 have hc:w.cell? ⟨b,o+q,none⟩=some v:=(m.ok i _ hm).2.2 q v hv
 show(execOp _ _).run P w=_
 simp [execOp,ha.ev hx,Instr.loadAt,Instr.sureAddr,oq hu hr hc]
theorem qm(ha:Has n T a)(m:MemOk X w0 M w){d:Option Tmp}{t:TypeId}{td:TypeDesc}{x:Operand}{i b o:Nat}{vs:List Value}{v:Value}(hm:lk M i=some (.cel b o (v :: vs)))(hx:evT T x=some (.pointer (some ⟨b,o,none⟩)))(hu:P.underlying t=some td)(hr:td.isRow=false):Yl P a w ⟨d,.load t x,tt,pos,af,gd⟩ v:=
 ql ha m (q:=0) hm hx rfl hu hr
theorem sC(ha:Has n T a)(m:MemOk X w0 M w){d:Option Tmp}{t:TypeId}{td:TypeDesc}{x:Operand}{i b o:Nat}{vs:List Value}(hm:lk M i=some (.cel b o vs))(hx:evT T x=some (.pointer (some ⟨b,o,none⟩)))(hu:P.underlying t=some td)(hr:td.isRow=true)(hs:(P.info? t).map (·.size)=some vs.length):Yl P a w ⟨d,.load t x,tt,pos,af,gd⟩ (.agg vs.toArray):=by
 show(execOp _ _).run P w=_
 rw[ot t x rfl b o (ha.ev hx) vs td (m.ok i _ hm).2.2 hu hr hs]
theorem xW{w:World}{t e:TypeId}{b o l c s:Nat}{k:IntKind}{q:Int}(hu:P.underlying t=some (.slice e))(hs:(P.info? e).map (·.size)=some s)(j:Nat)(hq:q=j)(hj:j<l):(Instr.indexAt t (.slice (some ⟨b,o,none⟩) l c) (.int k q)).run P w=.ok (.pointer (some ⟨b,o+j*s,none⟩)) w:=by
 subst hq
 cases hi:P.info? e with
 | none=>simp [hi] at hs
 | some i =>
   have hj':i.size=s:=by simpa [hi] using hs
   have h2:((j:Int)<(l:Int)):=by omega
   have h3:¬ l≤j:=by omega
   simp [Instr.indexAt,asIntOf,run_underlying hu,h2,h3,sizeOf,typeInfo,hi,hj',Addr.add_mid]
theorem Rd.ns_out{S:Nat→Prop}{v:Value}{k:IntKind}{zs:List Int}(h:Rd S w v (.ns k zs)):NumsS S k w v zs:=by cases h with|ns h=>exact h
theorem Rd.v_out{S:Nat→Prop}{v x:Value}(h:Rd S w v (.v x)):v=x:=by cases h;rfl
theorem Rd.ns_shape{S:Nat→Prop}{v:Value}{k:IntKind}{zs:List Int}(h:Rd S w v (.ns k zs)):∃ p c,v=.slice p zs.length c∧zs.length≤c:=by
 obtain⟨p,c,rfl,hc,-⟩:=h.ns_out;exact⟨p,c,rfl,hc.1⟩
theorem Rd.l_shape{S:Nat→Prop}{v:Value}{m:Nat}{rows:List (List D)}(h:Rd S w v (.l m rows)):∃ p c,v=.slice p rows.length c∧rows.length≤c:=by
 cases h with
 | l0 a c m=>exact⟨a,c,rfl,Nat.zero_le _⟩
 | l m b off c rows f hS hb hc=>exact⟨_,c,rfl,hc⟩
/-! ### Making, writing, calling -/
theorem lc(ha:Has n T a)(m:MemOk X w0 M w)(i:Nat){d:Tmp}{t:TypeId}{cs:List Value}(hz:((P.info? t).bind (·.zero)).map (·.cells.toList)=some cs)(ht:Nat.blt d n=true)(h:∀ g a' w',Has n ((d,.pointer (some ⟨g,0,none⟩)) :: T) a'→MemOk X w0 ((i,.box g t cs) :: M) w'→Below w.heap.size w w'→g=w.heap.size→K a' w'):Oper.wp P ⟨some d,.alloc t,tt,pos,af,gd⟩ a w K Q:=by
 cases hi:P.info? t with
 | none=>simp [hi] at hz
 | some it =>
   cases hzz:it.zero with
   | none=>simp [hi,hzz] at hz
   | some z =>
     have hc:z.cells.toList=cs:=by simpa [hi,hzz] using hz
     have hr:(execOp a.eval ⟨some d,.alloc t,tt,pos,af,gd⟩).run P w=.ok (.value (.pointer (some ⟨w.heap.size,0,none⟩))) (w.alloc (.cells z.cells t)):=by
       simp [execOp,Instr.alloc,zeroValue,typeInfo,hi,hzz,newVar,newRow]
     show Oper.upon P _ a K Q _
     rw[hr]
     have:=m.box i t z.cells
     rw[hc] at this
     exact h _ _ _ (ha.put ht _) this ((Below.refl _ w).alloc (Nat.le_refl _) _) rfl
theorem ly(ha:Has n T a)(m:MemOk X w0 M w)(i:Nat){d:Tmp}{t:TypeId}{x:Operand}{v:Value}{cs:List Value}(hx:evT T x=some v)(hc:v.cells.toList=cs)(ht:Nat.blt d n=true)(h:∀ g a' w',Has n ((d,.pointer (some ⟨g,0,none⟩)) :: T) a'→MemOk X w0 ((i,.box g t cs) :: M) w'→Below w.heap.size w w'→g=w.heap.size→K a' w'):Oper.wp P ⟨some d,.box t x,tt,pos,af,gd⟩ a w K Q:=by
 have hr:(execOp a.eval ⟨some d,.box t x,tt,pos,af,gd⟩).run P w=.ok (.value (.pointer (some ⟨w.heap.size,0,none⟩))) (w.alloc (.cells v.cells t)):=by
   simp [execOp,Instr.box,newVar,newRow,ha.ev hx]
 show Oper.upon P _ a K Q _
 rw[hr]
 have:=m.box i t v.cells
 rw[hc] at this
 exact h _ _ _ (ha.put ht _) this ((Below.refl _ w).alloc (Nat.le_refl _) _) rfl
theorem MemOk.setB(m:MemOk X w0 M w){i g:Nat}{e:TypeId}{cs cs':List Value}(hm:lk M i=some (.box g e cs)){w':World}(hb:Blk w' g e cs')(hk:Keep (fun b=>b=g) w w'):MemOk X w0 ((i,.box g e cs') :: M) w':=
 m.upd i _ (hk.mono (fun b e=>⟨_,hm,by rw[show b=g from e];rfl⟩)) (fun b hb=>.inl ⟨_,hm,hb⟩) (fun _ _=>⟨hb,(m.ok i _ hm).2⟩)
theorem vD(ha:Has n T a)(m:MemOk X w0 M w)(i:Nat){g o:Nat}{t e:TypeId}{x y:Operand}{cs cs':List Value}{v:Value}(hm:lk M i=some (.box g e cs))(hx:evT T x=some (.pointer (some ⟨g,o,none⟩)))(hy:evT T y=some v)(h1:v.oneCell'=true)(ho:Nat.blt o cs.length=true)(hs:(P.info? t).map (·.size)=some 1)(hc:cs.set o v=cs')(h:∀ w',MemOk X w0 ((i,.box g e cs') :: M) w'→Keep (fun b=>b=g) w w'→K a w'):Oper.wp P ⟨none,.store t x y,tt,pos,af,gd⟩ a w K Q:=by
 have ho':o<cs.length:=by simpa [Nat.blt_eq] using ho
 obtain⟨w',hr,hb,hk⟩:=mF (P:=P) (m.ok i _ hm).1 o t [v] (by simp;omega) (by simpa using hs) (by simpa using h1)
 have hst:(Instr.storeAt t (.pointer (some ⟨g,o,none⟩)) v).run P w=.ok () w':=by
   have e1:v.cells=#[v]:=pk h1
   have e2:(Value.agg #[v]).cells=#[v]:=rfl
   simp only [Instr.storeAt,storeVar,List.toArray,e1,e2] at hr ⊢
   exact hr
 have hrun:(execOp a.eval ⟨none,.store t x y,tt,pos,af,gd⟩).run P w=.ok .skip w':=by
   simp [execOp,ha.ev hx,ha.ev hy,hst]
 show Oper.upon P _ a K Q _
 rw[hrun]
 refine h w' (m.setB hm ?_ (hk _ rfl)) (hk _ rfl)
 rw[← hc,List.set_eq_take_append_cons_drop,if_pos ho']
 simpa using hb
theorem vE(ha:Has n T a)(m:MemOk X w0 M w)(i:Nat){g o:Nat}{t e:TypeId}{x y:Operand}{cs cs':List Value}{xs:Array Value}(hm:lk M i=some (.box g e cs))(hx:evT T x=some (.pointer (some ⟨g,o,none⟩)))(hy:evT T y=some (.agg xs))(h1:xs.toList.all (fun v=>v.oneCell')=true)(ho:Nat.ble (o+xs.size) cs.length=true)(hs:(P.info? t).map (·.size)=some xs.size)(hc:cs.take o++xs.toList++cs.drop (o+xs.size)=cs')(h:∀ w',MemOk X w0 ((i,.box g e cs') :: M) w'→Keep (fun b=>b=g) w w'→K a w'):Oper.wp P ⟨none,.store t x y,tt,pos,af,gd⟩ a w K Q:=by
 obtain⟨w',hr,hb,hk⟩:=mF (P:=P) (m.ok i _ hm).1 o t xs.toList (by simpa using ho) (by simpa using hs) (List.all_eq_true.1 h1)
 have hrun:(execOp a.eval ⟨none,.store t x y,tt,pos,af,gd⟩).run P w=.ok .skip w':=by
   have hr':(Instr.storeAt t (.pointer (some ⟨g,o,none⟩)) (.agg xs)).run P w=.ok () w':=by simpa using hr
   simp [execOp,ha.ev hx,ha.ev hy,hr']
 show Oper.upon P _ a K Q _
 rw[hrun]
 refine h w' (m.setB hm ?_ (hk _ rfl)) (hk _ rfl)
 rw[← hc]
 simpa using hb
theorem vF(ha:Has n T a)(m:MemOk X w0 M w)(i:Nat){g:Nat}{t e:TypeId}{x y:Operand}{cs xs:List Value}(hm:lk M i=some (.box g e cs))(hx:evT T x=some (.pointer (some ⟨g,0,none⟩)))(hy:evT T y=some (.agg xs.toArray))(h1:xs.all (fun v=>v.oneCell')=true)(hl:xs.length=cs.length)(hs:(P.info? t).map (·.size)=some xs.length)(h:∀ w',MemOk X w0 ((i,.box g e xs) :: M) w'→Keep (fun b=>b=g) w w'→K a w'):Oper.wp P ⟨none,.store t x y,tt,pos,af,gd⟩ a w K Q:=
 vE ha m i hm hx hy (by simpa using h1) (by simp;omega) (by simpa using hs) (by simp [hl]) h
theorem lG (ha : Has n T a) {d : Tmp} {f : FuncId} {args : Array Operand} {ats : Array TypeId} {fn : Func} {vs : List Value} (hf : P.funcs[f]? = some fn) (hn : (fn.name == "runtime.NumGoroutine") = false) (hb : fn.body.isNone = false) (hargs : evA T args.toList = some vs) (ht : Nat.blt d n = true) {R : Ending → World → Prop} (hc : Calls P f vs.toArray w R) (h : ∀ e w', R e w' → ∃ v, e = .returned v ∧ ∀ a', Has n ((d, v) :: T) a' → K a' w') : Oper.wp P ⟨some d, .call { callee := .value (.func f), args := args, argTypes := ats }, tt, pos, af, gd⟩ a w K Q := by
 have hv:args.map a.eval=vs.toArray:=by
   apply Array.ext';rw[Array.toList_map,ha.evA hargs]
 have hr:(execOp a.eval ⟨some d,.call { callee:=.value (.func f),args:=args,argTypes:=ats },tt,pos,af,gd⟩).run P w=.ok (.enter f vs.toArray) w:=by
   have hn' : ¬ fn.name = "runtime.NumGoroutine" := by simpa using hn
   have hb':¬ fn.body=none:=by cases h9:fn.body with|none=>rw[h9] at hb;cases hb|some c=>simp
   simp [execOp,resolve,Act.eval,Deferred.ofValue,invoke,callFunc,hf,hn',hb',hv]
 show Oper.upon P _ a K Q _
 rw[hr]
 show Calls P f vs.toArray w _
 refine hc.mono (fun e w' hR =>?_)
 obtain⟨v,rfl,hh⟩:=h e w' hR
 exact hh _ (ha.put ht v)
end
end
section
theorem NumsS.nums{S:Nat→Prop}{k:IntKind}{w:World}{v:Value}{zs:List Int}(h:NumsS S k w v zs):IsNums k w v zs:=by
 obtain⟨a,c,rfl,hc,h0|⟨b,off,rfl,h1,h2,h3⟩⟩:=h
 · exact⟨a,c,rfl,.inl h0⟩
 exact⟨_,c,rfl,.inr ⟨b,off,rfl,h2,h3⟩⟩
theorem NumsS.take{S:Nat→Prop}{k:IntKind}{w:World}{p:Option Addr}{l c:Nat}{zs:List Int}(h:NumsS S k w (.slice p l c) zs)(j:Nat)(hj:j≤zs.length):NumsS S k w (.slice p j c) (zs.take j):=by
 obtain⟨a,c',e,hc,hz⟩:=h
 injection e with e1 e2 e3
 subst e1;subst e3
 have hl:(zs.take j).length=j:=by rw[List.length_take];omega
 refine⟨_,_,by rw[hl],⟨by omega,hc.2⟩,?_⟩
 rcases hz with h0|⟨b,off,rfl,h1,h2,h3⟩
 · left;omega
 refine .inr ⟨b,off,rfl,h1,h2,fun q hq =>?_⟩
 rw[h3 q (by omega)]
 simp [List.getD,List.getElem?_take,show q<j by omega]
theorem NumsS.drop{S:Nat→Prop}{k:IntKind}{w:World}{p:Option Addr}{l c:Nat}{zs:List Int}(h:NumsS S k w (.slice p l c) zs)(j:Nat)(hj:j≤zs.length):NumsS S k w (.slice (if c=j then p else p.map (·.add (j*1))) (l - j) (c - j)) (zs.drop j):=by
 obtain⟨a,c',e,hc,hz⟩:=h
 injection e with e1 e2 e3
 subst e1;subst e3;subst e2
 refine⟨_,_,by rw[List.length_drop],⟨by rw[List.length_drop];omega,by omega⟩,?_⟩
 rcases hz with h0|⟨b,off,rfl,h1,h2,h3⟩
 · left;rw[List.length_drop];omega
 by_cases he:c=j
 · left;rw[List.length_drop];omega
 refine .inr ⟨b,off+j,by rw[if_neg he];simp [Addr.add_mid],h1,h2,fun q hq =>?_⟩
 rw[List.length_drop] at hq
 rw[Nat.add_assoc,h3 (j+q) (by omega)]
 simp [List.getD,List.getElem?_drop]
theorem Rd.cells{S:Nat→Prop}{w:World}{u:Value}{mm:Nat}{rows:List (List D)}(h:Rd S w u (.l mm rows)):∃ (p:Option Addr) (c:Nat) (cs:List (List Value)),u=.slice p rows.length c∧cs.length=rows.length∧(∀ c∈cs,c.length=mm∧∀ x∈c,x.oneCell'=true)∧(∀ r∈rows,r.length=mm)∧
   (∀ (j q:Nat) (c:List Value) (r:List D) (x:Value) (d:D),cs[j]? = some c→rows[j]? = some r→c[q]? = some x→r[q]? = some d→Rd S w x d)∧(rows.length=0∨∃ ad,p=some ad∧∀ j u,cs.flatten[j]? = some u→w.cell? (ad.add j)=some u):=by
 cases h with
 | l0 a c m=>exact⟨a,c,[],rfl,rfl,by simp,by simp,by simp,.inl rfl⟩
 | l m b off c rows f hS hb hc hm hcell hr =>
   have hin:∀ c∈(List.range rows.length).map (fun j=>(List.range mm).map (f j)),c.length=mm∧∀ x∈c,x.oneCell'=true:=by
     intro c hc'
     obtain⟨j,hj,rfl⟩:=List.mem_map.1 hc'
     refine⟨by simp,fun x hx =>?_⟩
     obtain⟨q,hq,rfl⟩:=List.mem_map.1 hx
     exact(hcell j q (List.mem_range.1 hj) (List.mem_range.1 hq)).2
   refine⟨_,c,(List.range rows.length).map (fun j=>(List.range mm).map (f j)),rfl,by simp,hin,hm,fun j q c r x d a1 a2 a3 a4 =>?_,.inr ⟨_,rfl,fun j u hj =>?_⟩⟩
   · have hj:=(List.getElem?_eq_some_iff.1 a2).1
     have hc1:c=(List.range mm).map (f j):=by simpa [hj] using a1.symm
     subst hc1
     have hq:q<mm:=by have:=(List.getElem?_eq_some_iff.1 a3).1;simpa using this
     have hx:x=f j q:=by simpa [hq] using a3.symm
     subst hx
     exact hr j q r d a2 a4
   have hjl:=(List.getElem?_eq_some_iff.1 hj).1
   have hfl:((List.range rows.length).map (fun j=>(List.range mm).map (f j))).flatten.length=rows.length*mm:=by
     rw[← List.flatMap_id,nF id mm _ (fun c hc=>(hin c hc).1)];simp
   rw[hfl] at hjl
   have hm0:0<mm:=Nat.pos_of_ne_zero (fun e=>by subst e;simp at hjl)
   have hd:j / mm<rows.length:=Nat.div_lt_of_lt_mul (by rw[Nat.mul_comm];exact hjl)
   have hr':j % mm<mm:=Nat.mod_lt _ hm0
   have hjj:j / mm*mm+j % mm=j:=by rw[Nat.mul_comm];exact Nat.div_add_mod j mm
   have hf:=l5 ((List.range rows.length).map (fun j=>(List.range mm).map (f j))) (j / mm) (j % mm) ((List.range mm).map (f (j / mm))) (fun c hc=>(hin c hc).1) (by simp [hd]) hr'
   rw[hjj,hj] at hf
   have hu:u=f (j / mm) (j % mm):=by simpa [hr'] using hf
   subst hu
   rw[Addr.add_mid,← (hcell (j / mm) (j % mm) hd hr').1]
   congr 2
   omega
section
variable {P:Program} {n:Nat} {T:List (Nat×Value)} {a:Act} {w w0:World} {X:Cx} {M:Mm} {tt:TypeId} {pos:String} {af:Array Edge} {gd:Option (Nat×Bool)} {ops:Array Oper} {rest:List Oper} {Q:Exit→Act→World→Prop} {K:Act→World→Prop}
theorem MemOk.nums(m:MemOk X w0 M w){i:Nat}{v:Value}{k:IntKind}{zs:List Int}(hm:lk M i=some (.dat v (.ns k zs))):IsNums k w v zs:=(m.ok i _ hm).ns_out.nums
theorem MemOk.numsO(m:MemOk X w0 M w){i:Nat}{v:Value}{e:TypeId}{k:IntKind}{zs:List Int}(hm:lk M i=some (.num v e k zs)):IsNums k w v zs:=IsNums.ofOwn (m.ok i _ hm)
theorem sD{w:World}(base:Nat)(t ty e:TypeId)(k:IntKind)(bytes:Nat)(ht:P.underlying t=some (.slice e))(hinf:(P.info? e).map (fun i=>(i.zero,i.size,i.bytes))=some (some (.int k 0),1,bytes))(hb8:bytes≤8)
   (v:Value) (xs:List Int) (hown:w.ownsRow base e 1 v xs.length (xs.map (Value.int k))) (u:Value) (zs:List Int) (hu:IsNums k w u zs) (hn:xs.length+zs.length≤1000000000) (hbase:base≤w.heap.size) :
   ∃ v' w',(Builtin.append_ #[t,t] ty #[v,u]).run P w=.ok v' w'∧w'.ownsRow base e 1 v' (xs++zs).length ((xs++zs).map (Value.int k))∧w.grownBy w' v.ownBlock∧(v'.ownBlock=v.ownBlock∨v'.ownBlock=some w.heap.size):=by
 have hbn:(xs.length+zs.length)*bytes≤140737488355328:=Nat.le_trans (Nat.mul_le_mul_left _ hb8) (by omega)
 obtain⟨p,c,rfl,hp⟩:=hu
 rw[List.length_append,List.map_append]
 have main:∀ ad:Addr,p=some ad→(∀ j v,(zs.map (Value.int k))[j]? = some v→w.cell? (ad.add j)=some v)→∃ v' w',(Builtin.append_ #[t,t] ty #[v,.slice p zs.length c]).run P w=.ok v' w'∧w'.ownsRow base e 1 v' (xs.length+zs.length) (xs.map (Value.int k)++zs.map (Value.int k))∧w.grownBy w' v.ownBlock∧(v'.ownBlock=v.ownBlock∨v'.ownBlock=some w.heap.size):=by
   intro ad hpa hcells
   rw[hpa]
   exact mc (P:=P) w base t ty e (.int k 0) 1 bytes ht hinf rfl (by decide) v xs.length _ hown ad zs.length c (zs.map (Value.int k)) (by simp) hcells (by intro u hu;obtain⟨y,_,rfl⟩:=List.mem_map.1 hu;rfl) (by unfold maxLen;omega) hbn hbase
 by_cases h0:zs.length=0
 · obtain rfl:=List.length_eq_zero_iff.1 h0
   cases p with
   | none =>
     obtain⟨i0,hi,-⟩:=info_parts hinf
     refine⟨v,w,mQ ht hi hown c,by simpa using hown,⟨rfl,rfl,rfl,Nat.le_refl _,fun _ _ _=>rfl⟩,.inl rfl⟩
   | some ad=>exact main ad rfl (by simp)
 rcases hp with hp|⟨b,off,rfl,hblk,hc⟩
 · exact absurd hp h0
 refine main _ rfl ?_
 intro j u hj
 have hjn:j<zs.length:=by
   have:=(List.getElem?_eq_some_iff.1 hj).1
   simpa using this
 rw[Addr.add_lit,hc j hjn]
 simp [hjn] at hj
 subst hj
 simp [List.getD,hjn]
theorem mV{w w':World}{v:Value}(hg:w.grownBy w' v.ownBlock):Keep (fun b=>v.ownBlock=some b) w w':=⟨hg.os,hg.tape,hg.output,hg.size,fun k hk hn=>hg.block k hk (fun e=>hn e.symm)⟩
theorem lE(ha:Has n T a)(m:MemOk X w0 M w)(i:Nat){d:Tmp}{t e:TypeId}{k:IntKind}{bytes:Nat}{s x:Operand}{v u:Value}{xs zs:List Int}(hm:lk M i=some (.num v e k xs))(hs:evT T s=some v)(hx:evT T x=some u)(hu:IsNums k w u zs)
   (ht:P.underlying t=some (.slice e)) (hinf:(P.info? e).map (fun i=>(i.zero,i.size,i.bytes))=some (some (.int k 0),1,bytes)) (hb8:bytes≤8) (hn:xs.length+zs.length≤1000000000) (hd:Nat.blt d n=true)
   (h:∀ p c a' w',Has n ((d,.slice p (xs++zs).length c) :: T) a'→MemOk X w0 ((i,.num (.slice p (xs++zs).length c) e k (xs++zs)) :: M) w'→K a' w'):Oper.wp P ⟨some d,.call { callee:=.builtin .append,args:=#[s,x],argTypes:=#[t,t] },tt,pos,af,gd⟩ a w K Q:=by
 obtain⟨v',w',hr,h1,h2,h3⟩:=sD (P:=P) w0.heap.size t tt e k bytes ht hinf hb8 v xs (m.ok i _ hm) u zs hu hn m.keep.size
 have hm':MemOk X w0 ((i,.num v' e k (xs++zs)) :: M) w':=m.upd i _ ((mV h2).mono (fun b e=>⟨_,hm,e⟩)) (fun b hb=>by
   rcases h3 with e1|e1
   · exact .inl ⟨_,hm,e1.symm.trans hb⟩
   have:some w.heap.size=some b:=e1.symm.trans hb
   injection this with this;right;omega) (fun _ _=>h1)
 obtain⟨p,c,e1⟩:=l6 h1
 have hrun:(execOp a.eval ⟨some d,.call { callee:=.builtin .append,args:=#[s,x],argTypes:=#[t,t] },tt,pos,af,gd⟩).run P w=.ok (.value v') w':=by
   simp only [execOp,resolve,invoke,builtin,Sem.run_bind,Sem.run_pure,Result.andThen_ok,List.map_toArray,List.map_cons,List.map_nil,ha.ev hs,ha.ev hx,hr]
 show Oper.upon P _ a K Q _
 rw[hrun]
 subst e1
 exact h p c _ _ (ha.put hd _) hm'
theorem lC(ha:Has n T a)(m:MemOk X w0 M w)(i:Nat){d:Tmp}{t e:TypeId}{mm bytes:Nat}{z:Value}{s x:Operand}{v u:Value}{xs zs:List (List D)}(hm:lk M i=some (.row v e mm xs))(hs:evT T s=some v)(hx:evT T x=some u)(hu:Rd (mP X M) w u (.l mm zs))
   (ht:P.underlying t=some (.slice e)) (hinf:(P.info? e).map (fun i=>(i.zero,i.size,i.bytes))=some (some z,mm,bytes)) (hz:z.cells.size=mm) (h0:Nat.blt 0 mm=true) (hb8:bytes≤1000) (hn:xs.length+zs.length≤100000000) (hd:Nat.blt d n=true)
   (h:∀ p c a' w',Has n ((d,.slice p (xs++zs).length c) :: T) a'→MemOk X w0 ((i,.row (.slice p (xs++zs).length c) e mm (xs++zs)) :: M) w'→K a' w'):Oper.wp P ⟨some d,.call { callee:=.builtin .append,args:=#[s,x],argTypes:=#[t,t] },tt,pos,af,gd⟩ a w K Q:=by
 obtain⟨cs,hown,hcl,hc1,hxm,hcr⟩:=m.ok i _ hm
 obtain⟨pu,cu,cz,rfl,hzl,hz1,hzm,hzr,hzp⟩:=hu.cells
 have h0':0<mm:=by simpa using h0
 have hbn:(xs.length+zs.length)*bytes≤140737488355328:=Nat.le_trans (Nat.mul_le_mul_left _ hb8) (by omega)
 have hfl:cz.flatten.length=zs.length*mm:=by rw[← List.flatMap_id,nF id mm _ (fun c hc=>(hz1 c hc).1),hzl]
 have hrun0:∃ v' w',(Builtin.append_ #[t,t] tt #[v,.slice pu zs.length cu]).run P w=.ok v' w'∧w'.ownsRow w0.heap.size e mm v' (xs.length+zs.length) (cs.flatten++cz.flatten)∧w.grownBy w' v.ownBlock∧(v'.ownBlock=v.ownBlock∨v'.ownBlock=some w.heap.size):=by
   have main:∀ ad:Addr,pu=some ad→(∀ j u,cz.flatten[j]? = some u→w.cell? (ad.add j)=some u)→∃ v' w',(Builtin.append_ #[t,t] tt #[v,.slice pu zs.length cu]).run P w=.ok v' w'∧w'.ownsRow w0.heap.size e mm v' (xs.length+zs.length) (cs.flatten++cz.flatten)∧w.grownBy w' v.ownBlock∧(v'.ownBlock=v.ownBlock∨v'.ownBlock=some w.heap.size):=by
     intro ad hpa hcells
     rw[hpa]
     exact mc (P:=P) w w0.heap.size t tt e z mm bytes ht hinf hz h0' v xs.length _ hown ad zs.length cu cz.flatten hfl hcells (fun u hu=>by obtain⟨c,hc,hx⟩:=List.mem_flatten.1 hu;exact(hz1 c hc).2 u hx) (by unfold maxLen;omega) hbn m.keep.size
   rcases hzp with h9|⟨ad,e1,e2⟩
   · obtain rfl:=List.length_eq_zero_iff.1 h9
     obtain rfl:cz=[]:=List.length_eq_zero_iff.1 (by simpa using hzl)
     cases pu with
     | none =>
       obtain⟨i0,hi,-⟩:=info_parts hinf
       refine⟨v,w,mQ ht hi hown cu,by simpa using hown,⟨rfl,rfl,rfl,Nat.le_refl _,fun _ _ _=>rfl⟩,.inl rfl⟩
     | some ad=>exact main ad rfl (by simp)
   exact main ad e1 e2
 obtain⟨v',w',hr,h1,h2,h3⟩:=hrun0
 have hm':MemOk X w0 ((i,.row v' e mm (xs++zs)) :: M) w':=m.upd i _ ((mV h2).mono (fun b e=>⟨_,hm,e⟩)) (fun b hb=>by
   rcases h3 with e1|e1
   · exact .inl ⟨_,hm,e1.symm.trans hb⟩
   · have:some w.heap.size=some b:=e1.symm.trans hb
     injection this with this;right;omega) (fun hf _=>by
   refine⟨cs++cz,?_,by rw[List.length_append,List.length_append,hcl,hzl],?_,?_,?_⟩
   · rw[List.length_append,List.flatten_append];exact h1
   · intro c hc
     rcases List.mem_append.1 hc with hc|hc
     · exact hc1 c hc
     exact hz1 c hc
   · intro r hr
     rcases List.mem_append.1 hr with hr|hr
     · exact hxm r hr
     exact hzm r hr
   intro j q c r x d a1 a2 a3 a4
   have hmono:∀ b,b<w.heap.size→mP X M b→w'.heap[b]? = w.heap[b]?∧mP X ((i,Res.row v' e mm (xs++zs)) :: M) b:=fun b hlt hF=>⟨h2.block b hlt (fun e1=>hF.2 ⟨i,_,hm,e1.symm⟩),hf b hlt hF⟩
   by_cases hj:j<cs.length
   · rw[List.getElem?_append_left hj] at a1
     rw[List.getElem?_append_left (by omega)] at a2
     exact(hcr j q c r x d a1 a2 a3 a4).mono h2.size hmono
   rw[List.getElem?_append_right (by omega)] at a1
   rw[List.getElem?_append_right (by omega)] at a2
   rw[hcl] at a1
   exact(hzr _ q c r x d a1 a2 a3 a4).mono h2.size hmono)
 have h1':w'.ownsRow w0.heap.size e mm v' (xs++zs).length (cs.flatten++cz.flatten):=by rw[List.length_append];exact h1
 obtain⟨p,c,e1⟩:=l6 h1'
 have hrun:(execOp a.eval ⟨some d,.call { callee:=.builtin .append,args:=#[s,x],argTypes:=#[t,t] },tt,pos,af,gd⟩).run P w=.ok (.value v') w':=by
   simp only [execOp,resolve,invoke,builtin,Sem.run_bind,Sem.run_pure,Result.andThen_ok,List.map_toArray,List.map_cons,List.map_nil,ha.ev hs,ha.ev hx,hr]
 show Oper.upon P _ a K Q _
 rw[hrun]
 subst e1
 exact h p c _ _ (ha.put hd _) hm'
end
end
section
def evLit(T:List (Nat×Value)):Nat→List (Nat×Operand)→Option (List Value)
 | _,[]=>some []
 | i,(j,x) :: l=>bif Nat.beq j i then (match evT T x,evLit T (i+1) l with
   | some v,some r=>some (v :: r)
   | _,_=>none) else none
def qR(k:IntKind):List Value→Option (List Int)
 | []=>some []
 | .int k' z :: r=>if k'=k then (match qR k r with|some t=>some (z :: t)|none=>none) else none
 | _ :: _=>none
theorem pV{k:IntKind}:∀ {vs:List Value} {zs:List Int},qR k vs=some zs→vs=zs.map (Value.int k)
 | [],zs,h=>by cases h;rfl
 | v :: r,zs,h=>by
   cases v <;> try (cases h;done)
   case int k' z =>
     unfold qR at h
     split at h
     · rename_i e;subst e
       cases hr:qR k' r with
       | none=>rw[hr] at h;cases h
       | some t=>rw[hr] at h;cases h;rw[List.map_cons,← pV hr]
     cases h
theorem Has.evLit{n:Nat}{T:List (Nat×Value)}{a:Act}(h:Has n T a):∀ {l:List (Nat×Operand)} {i:Nat} {vs:List Value},K.evLit T i l=some vs→l.map (fun x=>(x.1,a.eval x.2))=(vs.zipIdx i).map (fun x=>(x.2,x.1))
 | [],i,vs,e=>by cases e;rfl
 | (j,x) :: l,i,vs,e=>by
   unfold K.evLit at e
   cases hb:Nat.beq j i with
   | false=>rw[hb] at e;cases e
   | true =>
     rw[hb] at e
     dsimp only [cond] at e
     obtain rfl:=Nat.eq_of_beq_eq_true hb
     cases hx:evT T x with
     | none=>rw[hx] at e;cases e
     | some v =>
       cases hl:K.evLit T (j+1) l with
       | none=>rw[hx,hl] at e;cases e
       | some r =>
         rw[hx,hl] at e
         cases e
         rw[List.map_cons,h.evLit hl,h.ev hx,List.zipIdx_cons,List.map_cons]
inductive RowsL (S:Nat→Prop) (w:World) (mm:Nat):List Value→List (List D)→Prop
 | nil:RowsL S w mm [] []
 | cons {v:Value} {r:List D} {vs:List Value} {rs:List (List D)} (hl:v.cells.toList.length=mm) (h1:v.cells.toList.all (fun x=>x.oneCell')=true) (hr:RdL S w v.cells.toList r) (t:RowsL S w mm vs rs):RowsL S w mm (v :: vs) (r :: rs)
theorem RowsL.out{S:Nat→Prop}{w:World}{mm:Nat}{vs:List Value}{rs:List (List D)}(h:RowsL S w mm vs rs):vs.length=rs.length∧(∀ v∈vs,v.cells.size=mm∧∀ x∈v.cells.toList,x.oneCell'=true)∧(∀ r∈rs,r.length=mm)∧∀ (j q:Nat) (c:List Value) (r:List D) (x:Value) (d:D),(vs.map (·.cells.toList))[j]? = some c→rs[j]? = some r→c[q]? = some x→r[q]? = some d→Rd S w x d:=by
 induction h with
 | nil=>exact⟨rfl,by simp,by simp,by simp⟩
 | cons hl h1 hr t ih =>
   obtain⟨e1,e2,e3,e4⟩:=ih
   refine⟨by simp [e1],fun v hv =>?_,fun r hr' =>?_,fun j q c r x d a1 a2 a3 a4 =>?_⟩
   · rcases List.mem_cons.1 hv with rfl|hv
     · exact⟨by simpa using hl,List.all_eq_true.1 h1⟩
     exact e2 v hv
   · rcases List.mem_cons.1 hr' with rfl|hr'
     · rw[← hr.len,hl]
     exact e3 r hr'
   cases j with
   | zero=>simp at a1 a2;subst a1;subst a2;exact hr.get q x d a3 a4
   | succ j=>exact e4 j q c r x d (by simpa using a1) (by simpa using a2) a3 a4
theorem Rd.l_out{S:Nat→Prop}{w:World}{v:Value}{mm:Nat}{rows:List (List D)}(h:Rd S w v (.l mm rows)):rows=[]∨∃ (b off c:Nat) (f:Nat→Nat→Value),v=.slice (some ⟨b,off,none⟩) rows.length c∧S b∧b<w.heap.size∧(∀ r∈rows,r.length=mm)∧(∀ j q,j<rows.length→q<mm→w.cell? ⟨b,off+j*mm+q,none⟩=some (f j q)∧(f j q).oneCell'=true)∧(∀ (j q:Nat) (r:List D) (d:D),rows[j]? = some r→r[q]? = some d→Rd S w (f j q) d):=by
 cases h with
 | l0 a c m=>exact .inl rfl
 | l m b off c rows f hS hb hc hm hcell hr=>exact .inr ⟨b,off,c,f,rfl,hS,hb,hm,hcell,hr⟩
section
variable {P:Program} {n:Nat} {T:List (Nat×Value)} {a:Act} {w w0:World} {X:Cx} {M:Mm} {tt:TypeId} {pos:String} {af:Array Edge} {gd:Option (Nat×Bool)} {ops:Array Oper} {rest:List Oper} {Q:Exit→Act→World→Prop} {K:Act→World→Prop}
theorem MemOk.only(m:MemOk X w0 M w)(l:List Nat):MemOk X w0 (tk M l) w:=m.sub (o0 M l)
theorem MemOk.rd(m:MemOk X w0 M w){i:Nat}{v:Value}{d:D}(h:lk M i=some (.dat v d)):Rd (mP X M) w v d:=m.ok i _ h
theorem li(ha:Has n T a){d:Option Tmp}{t e:TypeId}{x y:Operand}{b o l c s:Nat}{k:IntKind}{q:Int}(hx:evT T x=some (.slice (some ⟨b,o,none⟩) l c))(hy:evT T y=some (.int k q))(hu:P.underlying t=some (.slice e))(hs:(P.info? e).map (·.size)=some s)(j:Nat)(hq:q=j)(hj:j<l):Yl P a w ⟨d,.indexAddr t x y,tt,pos,af,gd⟩ (.pointer (some ⟨b,o+j*s,none⟩)):=by
 show(execOp _ _).run P w=_
 simp [execOp,ha.ev hx,ha.ev hy,xW hu hs j hq hj]
theorem MemOk.openN(m:MemOk X w0 M w){i:Nat}{p:Option Addr}{l c:Nat}{k:IntKind}{zs:List Int}(hm:lk M i=some (.dat (.slice p l c) (.ns k zs)))(j:Nat)(hj:j<zs.length)(i2:Nat)(hi2:lk M i2=none):∃ b o,p=some ⟨b,o,none⟩∧MemOk X w0 ((i2,.cel b (o+j*1) [.int k (zs.getD j 0)]) :: M) w:=by
 obtain⟨p',c',e,hc,h0|⟨b,off,rfl,h1,h2,h3⟩⟩:=(m.ok i _ hm).ns_out
 · omega
 injection e with e1 e2 e3
 refine⟨b,off,e1,m.cel i2 hi2 h1 h2 (fun q v hv =>?_)⟩
 obtain rfl:q=0:=by have:=(List.getElem?_eq_some_iff.1 hv).1;simpa using this
 simp at hv;subst hv
 rw[Nat.add_zero,Nat.mul_one];exact h3 j hj
theorem MemOk.openR(m:MemOk X w0 M w){i:Nat}{p:Option Addr}{l c mm:Nat}{rows:List (List D)}(hm:lk M i=some (.dat (.slice p l c) (.l mm rows)))(j:Nat){r:List D}(hr:rows[j]? = some r)(i2:Nat)(hi2:lk M i2=none):∃ b o vs,p=some ⟨b,o,none⟩∧RdL (mP X M) w vs r∧vs.all (fun v=>v.oneCell')=true∧MemOk X w0 ((i2,.cel b (o+j*mm) vs) :: M) w:=by
 have hR:=m.ok i _ hm
 have hj:j<rows.length:=(List.getElem?_eq_some_iff.1 hr).1
 rcases Rd.l_out hR with rfl|⟨b,off,c',f,e,hS,hb,hmm,hcell,hrd⟩
 · simp at hj
 injection e with e1 e2 e3
 have hrm:r.length=mm:=hmm r (List.mem_of_getElem? hr)
 refine⟨b,off,(List.range mm).map (f j),e1,?_,?_,m.cel i2 hi2 hS hb (fun q v hv =>?_)⟩
 · refine RdL.of (by simp [hrm]) (fun q v d h1 h2 =>?_)
   have h1':q<mm:=by have:=(List.getElem?_eq_some_iff.1 h2).1;omega
   have:v=f j q:=by simpa [h1'] using h1.symm
   subst this
   exact hrd j q r _ hr h2
 · rw[List.all_eq_true]
   intro v hv
   obtain⟨q,hq',rfl⟩:=List.mem_map.1 hv
   exact(hcell j q hj (List.mem_range.1 hq')).2
 have hq':=(List.getElem?_eq_some_iff.1 hv).1
 have hq2:q<mm:=by simpa using hq'
 have:v=f j q:=by simpa [hq2] using hv.symm
 subst this
 exact(hcell j q hj hq2).1
theorem xX(ha:Has n T a){d:Option Tmp}{s t e:TypeId}{x:Operand}{v:Value}{bs:List Int}(hx:evT T x=some v)(hv:IsNums .u8 w v bs)(hs:P.underlying s=some (.slice e))(he:P.underlying e=some (.int .u8))(hd:P.underlying t=some .string):Yl P a w ⟨d,.convert s t x,tt,pos,af,gd⟩ (.string (strOfNums bs)):=by
 show(execOp _ _).run P w=_
 simp [execOp,ha.ev hx,qo hv s e hs he t hd]
theorem lj(ha:Has n T a)(m:MemOk X w0 M w)(i:Nat){d:Tmp}{t e:TypeId}{len:Nat}{parts:Array (Nat×Operand)}{vs:List Value}{k:IntKind}{zs:List Int}(hp:evLit T 0 parts.toList=some vs)(hz:qR k vs=some zs)(hu:P.underlying t=some (.slice e)){z:Value}{bytes:Nat}(hinf:(P.info? e).map (fun i=>(i.zero,i.size,i.bytes))=some (some z,1,bytes))(hl:zs.length=len)(h0:Nat.blt 0 len=true)(h1:Nat.ble len 1000=true)(ht:Nat.blt d n=true)
   (h:∀ g a' w',Has n ((d,.slice (some ⟨g,0,none⟩) len len) :: T) a'→MemOk X w0 ((i,.num (.slice (some ⟨g,0,none⟩) len len) e k zs) :: M) w'→K a' w'):Oper.wp P ⟨some d,.buildSlice t len parts,tt,pos,af,gd⟩ a w K Q:=by
 obtain⟨ie,hie,hzz,hsz,-⟩:=info_parts hinf
 have h0':0<len:=by simpa using h0
 have h1':len≤1000:=by simpa using h1
 have hvs:=pV hz
 have hpl:=ha.evLit hp
 have hf:Instr.fill (fun i=>some (i*ie.size,ie.size)) ((Array.range (len*ie.size)).map (z.cells[· % z.cells.size]!)) (parts.map fun(i,x)=>(i,a.eval x)).toList=some (zs.map (Value.int k)).toArray:=by
   rw[Array.toList_map,hsz,hvs] at *
   have:=Great.fill_flat (zs.map (Value.int k)) ((Array.range (len*1)).map (z.cells[· % z.cells.size]!)) (fun v hv=>by obtain⟨x,_,rfl⟩:=List.mem_map.1 hv;rfl) (by simp [hl])
   rw[← this]
   congr 1
 have hr:=run_buildSlice (P:=P) w t e len _ _ ie z hu hie hzz (by rw[hsz];omega) (by rw[hsz];omega) hf
 have hrun:(execOp a.eval ⟨some d,.buildSlice t len parts,tt,pos,af,gd⟩).run P w=.ok (.value (.slice (some ⟨w.heap.size,0,none⟩) len len)) (w.alloc (.cells (zs.map (Value.int k)).toArray e)):=by
   simp only [execOp,Sem.run_bind,hr,Result.andThen_ok,Sem.run_pure]
 show Oper.upon P _ a K Q _
 rw[hrun]
 refine h _ _ _ (ha.put ht _) (m.newN i ((Below.refl _ w).alloc (Nat.le_refl _) _) ?_)
 rw[hl]
 have:=World.ownsRow_lit (base:=w.heap.size) (e:=e) (size:=1) w (zs.map (Value.int k)).toArray len (Nat.le_refl _) (by unfold maxLen;omega) (by simp [hl])
 simpa using this
theorem lq(ha:Has n T a)(m:MemOk X w0 M w)(i:Nat){d:Tmp}{t e:TypeId}{len mm:Nat}{parts:Array (Nat×Operand)}{vs:List Value}{rows:List (List D)}(hp:evLit T 0 parts.toList=some vs)(hz:RowsL (mP X M) w mm vs rows)(hu:P.underlying t=some (.slice e)){z:Value}{bytes:Nat}(hinf:(P.info? e).map (fun i=>(i.zero,i.size,i.bytes))=some (some z,mm,bytes))(hzs:z.cells.size=mm)(hl:rows.length=len)(h0:Nat.blt 0 (len*mm)=true)(h1:Nat.ble (len*mm) 1000=true)(ht:Nat.blt d n=true)
   (h:∀ g a' w',Has n ((d,.slice (some ⟨g,0,none⟩) len len) :: T) a'→MemOk X w0 ((i,.row (.slice (some ⟨g,0,none⟩) len len) e mm rows) :: M) w'→K a' w'):Oper.wp P ⟨some d,.buildSlice t len parts,tt,pos,af,gd⟩ a w K Q:=by
 obtain⟨ie,hie,hzz,hsz,-⟩:=info_parts hinf
 have h0':0<len*mm:=by simpa using h0
 have h1':len*mm≤1000:=by simpa using h1
 have hmm:0<mm:=Nat.pos_of_mul_pos_left h0'
 have hlen:len≤len*mm:=Nat.le_mul_of_pos_right _ hmm
 obtain⟨o1,o2,o3,o4⟩:=hz.out
 have hpl:=ha.evLit hp
 have hf:Instr.fill (fun i=>some (i*ie.size,ie.size)) ((Array.range (len*ie.size)).map (z.cells[· % z.cells.size]!)) (parts.map fun(i,x)=>(i,a.eval x)).toList=some (vs.flatMap fun v=>v.cells.toList).toArray:=by
   rw[Array.toList_map,hsz]
   have:=Great.fill_whole hmm vs ((Array.range (len*mm)).map (z.cells[· % z.cells.size]!)) (fun v hv=>(o2 v hv).1) (by simp [o1,hl])
   rw[← this]
   congr 1
 have hr:=run_buildSlice (P:=P) w t e len _ _ ie z hu hie hzz (by rw[hsz];omega) (by rw[hsz];omega) hf
 have hrun:(execOp a.eval ⟨some d,.buildSlice t len parts,tt,pos,af,gd⟩).run P w=.ok (.value (.slice (some ⟨w.heap.size,0,none⟩) len len)) (w.alloc (.cells (vs.flatMap fun v=>v.cells.toList).toArray e)):=by
   simp only [execOp,Sem.run_bind,hr,Result.andThen_ok,Sem.run_pure]
 have hbel:Below w.heap.size w (w.alloc (.cells (vs.flatMap fun v=>v.cells.toList).toArray e)):=(Below.refl _ w).alloc (Nat.le_refl _) _
 show Oper.upon P _ a K Q _
 rw[hrun]
 refine h _ _ _ (ha.put ht _) (m.newR i hbel ⟨vs.map (·.cells.toList),?_,by simp [o1],?_,o3,fun j q c r x d a1 a2 a3 a4=>(o4 j q c r x d a1 a2 a3 a4).mono hbel.size (fun b hlt hS=>⟨hbel.block b hlt,.inl ⟨hS,hlt⟩⟩)⟩)
 · rw[hl,← List.flatMap_def]
   have hsz2:(vs.flatMap fun v=>v.cells.toList).length=len*mm:=by rw[nF _ mm _ (fun v hv=>by simpa using (o2 v hv).1),o1,hl]
   have:=World.ownsRow_lit (base:=w.heap.size) (e:=e) (size:=mm) w (vs.flatMap fun v=>v.cells.toList).toArray len (Nat.le_refl _) (by unfold maxLen;omega) (by simpa using hsz2)
   simpa using this
 intro c hc
 obtain⟨v,hv,rfl⟩:=List.mem_map.1 hc
 exact⟨by simpa using (o2 v hv).1,(o2 v hv).2⟩
/-! ### The ends -/
theorem AQ(ha:Has n T a){fn:Func}{t:Tmp}{v:Value}{R:Ending→World→Prop}(hr:fn.results=#[.tmp t])(hv:lk T t=some v)(h:R (.returned v) w):bodyPost P fn R .ret a w:=
 ⟨ha.d,v,by rw[results_tmp hr,ha.h t v hv],h⟩
theorem AR(ha:Has n T a){fn:Func}{t s:Tmp}{v u:Value}{R:Ending→World→Prop}(hr:fn.results=#[.tmp t,.tmp s])(hv:lk T t=some v)(hu:lk T s=some u)(h:R (.returned (.tuple #[v,u])) w):bodyPost P fn R .ret a w:=
 ⟨ha.d,_,by rw[results_tmp2 hr,ha.h t v hv,ha.h s u hu],h⟩
theorem AI(ha:Has n T a){fn:Func}{R:Ending→World→Prop}(hr:fn.results=#[])(h:R (.returned (.tuple #[])) w):bodyPost P fn R .normal a w:=
 ⟨ha.d,_,results_none hr _ _ _,h⟩
theorem sE{id:Nat}(h:Q .normal a w):Exit.inBlock id Q (.exit id) a w:=by simpa [Exit.inBlock] using h
theorem enter{f:FuncId}{fn:Func}{c:Code}{args:List Value}{R:Ending→World→Prop}{N:Nat}(hf:P.funcs[f]? = some fn)(hb:fn.body=some c)(hN:fn.ntmps=N)(hl:Nat.ble args.length N=true)(h:∀ a,Has N (args.zipIdx.map (fun x=>(x.2,x.1))) a→c.wp P (bodyPost P fn R) a w):Calls P f args.toArray w R:=by
 refine calls_of_wp hf hb (h _ ⟨rfl,?_,fun t v hv =>?_⟩)
 · have:args.length≤N:=by simpa using hl
   simp [hN];omega
 have key:∀ (l:List Value) (k:Nat),lk ((l.zipIdx k).map (fun x=>(x.2,x.1))) t=some v→k≤t∧l[t - k]? = some v:=by
   intro l
   induction l with
   | nil=>intro k h;cases h
   | cons x l ih =>
     intro k h
     rw[List.zipIdx_cons,List.map_cons,lT] at h
     by_cases e:k=t
     · rw[if_pos e] at h;cases h;subst e;simp
     rw[if_neg e] at h
     obtain⟨h1,h2⟩:=ih (k+1) h
     refine⟨by omega,?_⟩
     rw[show t - k=(t - (k+1))+1 by omega,List.getElem?_cons_succ];exact h2
 have:=(key args 0 hv).2
 rw[Nat.sub_zero] at this
 have hlt:=(List.getElem?_eq_some_iff.1 this).1
 have e9:args[t]=v:=by rw[List.getElem?_eq_getElem hlt] at this;injection this
 simp [Array.getD_eq_getD_getElem?,Array.getElem?_append,hlt,e9]
end
end
end Go.Proofs.YteglmahnkfgelaaGreat.K
