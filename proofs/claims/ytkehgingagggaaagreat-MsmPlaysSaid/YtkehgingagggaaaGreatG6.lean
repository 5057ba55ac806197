/- General laws of walks. -/
import Derived.Test.YtkehgingagggaaaGreatG5
import Derived.Test.YtkehgingagggaaaGreatG4
import Derived.Lib.AppendZerosOnto
namespace Go.Proofs.YtkehgingagggaaaGreat.K
open Go.ChangeShapes Go.WideShapes Go.ChangeAt Go.RowKit
set_option linter.unusedVariables false
set_option linter.unusedSimpArgs false
set_option maxRecDepth 100000
set_option maxHeartbeats 4000000
set_option autoImplicit true
set_option relaxedAutoImplicit true
section
def gdB(ops:Array Oper)(n:Nat)(T:List (Nat×Value)):Option (Nat×Bool)→Bool
 | none=>true
 | some (j,b)=>match (ops[j]?).bind (·.dst) with
   | some t=>Nat.blt t n && match lk T t with
     | some (.bool x)=>x == b
     | _=>false
   | none=>false
theorem lF{ops:Array Oper}{n:Nat}{T:List (Nat×Value)}{a:Act}(ha:Has n T a){o:Oper}(h:gdB ops n T o.guard=true):Region.wanted o (Go.yielded ops a.tmps)=true:=by
 unfold gdB at h
 split at h
 · next e=>simp [Region.wanted,e]
 next j b e =>
 split at h
 · next t hj =>
   rw[Bool.and_eq_true] at h
   split at h
   · next x hb =>
     obtain rfl:x=b:=by simpa using h.2
     simp [Region.wanted,e,ha.yielded hj hb h.1]
   cases h.2
 cases h
inductive Cd (P:Program) (n:Nat) (ops:Array Oper) (S:World→Prop):List (Oper×Bool)→List (Nat×Value)→List (Nat×Value)→Prop
 | nil {T:List (Nat×Value)}:Cd P n ops S [] T T
 | c {d:Tmp} {op:Op} {v:Value} {L:List (Oper×Bool)} {T T':List (Nat×Value)} {tt:TypeId} {pos:String} {af:Array Edge} {gd:Option (Nat×Bool)} (hy:∀ W,S W→∀ a,Has n T a→Yl P a W ⟨some d,op,tt,pos,af,gd⟩ v) (tl:Cd P n ops S L ((d,v) :: T) T') (hg:gdB ops n T gd=true:=by rfl) (ht:Nat.blt d n=true:=by rfl):Cd P n ops S ((⟨some d,op,tt,pos,af,gd⟩,true) :: L) T T'
 | p {d:Tmp} {op:Op} {v:Value} {L:List (Oper×Bool)} {T T':List (Nat×Value)} {tt:TypeId} {pos:String} {af:Array Edge} {gd:Option (Nat×Bool)} (hy:∀ W,∀ a,Has n T a→Yl P a W ⟨some d,op,tt,pos,af,gd⟩ v) (tl:Cd P n ops S L ((d,v) :: T) T') (hg:gdB ops n T gd=true:=by rfl) (ht:Nat.blt d n=true:=by rfl):Cd P n ops S ((⟨some d,op,tt,pos,af,gd⟩,false) :: L) T T'
 | s {d:Tmp} {op:Op} {L:List (Oper×Bool)} {T T':List (Nat×Value)} {tt:TypeId} {pos:String} {af:Array Edge} {j t:Nat} {b:Bool} (tl:Cd P n ops S L ((d,undef) :: T) T') (hj:(ops[j]?).bind (·.dst)=some t:=by rfl) (hb:lk T t=some (.bool !b):=by rfl) (ht2:Nat.blt t n=true:=by rfl) (ht:Nat.blt d n=true:=by rfl):Cd P n ops S ((⟨some d,op,tt,pos,af,some (j,b)⟩,false) :: L) T T'
 | u {d:Tmp} {op:Op} {L:List (Oper×Bool)} {T T':List (Nat×Value)} {tt:TypeId} {pos:String} {af:Array Edge} {j t:Nat} {b:Bool} (tl:Cd P n ops S L ((d,undef) :: T) T') (hj:(ops[j]?).bind (·.dst)=some t:=by rfl) (hb:lk T t=some undef:=by rfl) (ht2:Nat.blt t n=true:=by rfl) (ht:Nat.blt d n=true:=by rfl):Cd P n ops S ((⟨some d,op,tt,pos,af,some (j,b)⟩,false) :: L) T T'
def l8(ops:Array Oper)(rs:List Nat):List Nat→List (Oper×Bool)
 | [] => []
 | i :: is=>match ops[i]? with
   | some o=>(o,rs.contains i) :: l8 ops rs is
   | none=>l8 ops rs is
def lst(s m:Nat):Array Bool:=((List.range s).map fun i=>m.testBit i).toArray
theorem kq(s m):(lst s m).size=s:=by simp [lst]
theorem jy(s m i:Nat)(d):(lst s m).getD i d=if i<s then m.testBit i else d:=by
 unfold Array.getD
 by_cases h:i<s
 · rw[dif_pos (show i<(lst s m).size by rw[kq];exact h),if_pos h];simp [lst]
 rw[dif_neg (show ¬ i<(lst s m).size by rw[kq];exact h),if_neg h]
theorem k7(s m i):(lst s m).setIfInBounds i true=lst s (m ||| (1 <<< i)):=by
 apply Array.ext
 · simp [kq]
 intro k h1 h2
 rw[Array.getElem_setIfInBounds (by rw[kq];simpa [kq] using h1)]
 have hk:k<s:=by rw[kq] at h2;exact h2
 by_cases hik:i=k
 · subst hik;simp [lst,Nat.testBit_or,Nat.one_shiftLeft,Nat.testBit_two_pow_self]
 rw[if_neg hik];simp [lst,Nat.testBit_or,Nat.one_shiftLeft,Nat.testBit_two_pow_of_ne hik]
def nC(md:Region.Mode)(ops:Array Oper):Bool:=(List.range ops.size).all fun i=>match ops[i]? with
 | none=>true
 | some oi=>(List.range ops.size).all fun j=>j == i || match ops[j]? with
   | none=>true
   | some oj=>oj.after.any (fun e=>Region.binds md e && e.on == i) || oi.after.any (fun e=>Region.binds md e && e.on == j) || oi.apart ops oj
def rdM(md:Region.Mode)(ops:Array Oper)(e:Nat)(rs:List Nat):Nat→List Nat→Bool
 | _,[]=>true
 | m,i :: is=>(match ops[i]? with
   | none=>false
   | some o => !(m.testBit i) && o.after.all fun ed => !Region.binds md ed || (m.testBit ed.on && Nat.blt ed.on ops.size)) && Nat.blt i ops.size && decide (i≠e) && (!(rs.contains i) || (decide (ops.size≤e) || mU md ops e i)) && rdM md ops e rs (m ||| (1 <<< i)) is
def mV:Nat→List Nat→Nat
 | m,[]=>m
 | m,i :: is=>mV (m ||| (1 <<< i)) is
theorem oX{md:Region.Mode}{ops:Array Oper}{m i:Nat}{o:Oper}(ho:ops[i]? = some o)(hn:m.testBit i=false)(ha:∀ ed∈o.after,Region.binds md ed=true→m.testBit ed.on=true∧ed.on<ops.size):i∈Region.ready md ops (lst ops.size m):=by
 have hi':i<ops.size:=(Array.getElem?_eq_some_iff.1 ho).1
 refine mem_ready.2 ⟨by rw[jy,if_pos hi',hn],o,ho,fun ed hed hb =>?_⟩
 rw[jy,if_pos (ha ed hed hb).2,(ha ed hed hb).1]
theorem qM{md:Region.Mode}{ops:Array Oper}{m i:Nat}{o:Oper}(hp:nC md ops=true)(ho:ops[i]? = some o)(ha:∀ ed∈o.after,Region.binds md ed=true→m.testBit ed.on=true∧ed.on<ops.size):Region.free md ops (lst ops.size m) i=true:=by
 simp only [nC,List.all_eq_true,List.mem_range] at hp
 have hi:=hp i (Array.getElem?_eq_some_iff.1 ho).1
 simp only [ho,List.all_eq_true,List.mem_range] at hi
 simp only [Region.free,ho,List.all_eq_true,List.mem_range]
 intro j hj
 have hij:=hi j hj
 rw[jy,if_pos hj]
 rw[Bool.or_eq_true] at hij
 rcases hij with h1|h1
 · rw[h1];simp
 cases hoj:ops[j]? with
 | none=>simp
 | some oj =>
   simp only [hoj,Bool.or_eq_true] at h1
   rcases h1 with (h3|h3)|h3
   · simp [h3]
   · obtain⟨ed,hed,h4⟩:=Array.any_eq_true'.1 h3
     rw[Bool.and_eq_true,beq_iff_eq] at h4
     have h5:=ha ed hed h4.1
     rw[h4.2] at h5
     simp [h5.1]
   simp [h3]
theorem sL{md:Region.Mode}{ops:Array Oper}{m:Nat}{o:Oper}(h:(o.after.all fun ed => !Region.binds md ed || (m.testBit ed.on && Nat.blt ed.on ops.size))=true):∀ ed∈o.after,Region.binds md ed=true→m.testBit ed.on=true∧ed.on<ops.size:=fun ed hed hb=>by
 have h5:=Array.all_eq_true_iff_forall_mem.1 h ed hed
 rw[hb] at h5
 simpa [Nat.blt_eq] using h5
section
variable {P:Program} {n:Nat} {ops:Array Oper} {Q:Exit→Act→World→Prop} {md:Region.Mode} {e fuel:Nat} {S S':World→Prop}
theorem pX{L:Array Bool}(h:Closed md ops L):jC md ops L=true:=by
 unfold jC
 rw[Bool.and_eq_true,decide_eq_true_eq,List.all_eq_true]
 refine⟨h.1,fun j _ =>?_⟩
 cases hl:L.getD j false with
 | false=>rfl
 | true =>
   cases ho:ops[j]? with
   | none=>rfl
   | some oj =>
     simp only [Bool.not_true,Bool.false_or]
     rw[Array.all_eq_true_iff_forall_mem]
     intro ed hed
     cases hb:Region.binds md ed with
     | false=>rfl
     | true=>simpa using h.2 j oj ho hl ed hed hb
theorem hh:∀ W,S W→S W:=fun _ h=>h
theorem oY(rs:List Nat)(hp:nC md ops=true)(hs:Region.noSelect ops=true)(hQ:∀ c a d v w,Q (.panic c) (a.put (some d) v) w→Q (.panic c) a w):∀ (is:List Nat) {k m:Nat} {T T':List (Nat×Value)} {a:Act} {w:World},is.length=k→Has n T a→(S w∨(Nat.testBit m e=true∧e<ops.size∧rs=[]))→(rs=[]∨jC md ops (lst ops.size m)=true)→Cd P n ops S (l8 ops rs is) T T'→rdM md ops e rs m is=true→(∀ a',Has n T' a'→ik P md ops Q e S fuel (lst ops.size (mV m is)) a' w)→ik P md ops Q e S (fuel+k) (lst ops.size m) a w
 | [],k,m,T,T',a,w,hk,ha,hS,hcl,hc,_,h=>by
   subst hk
   cases hc
   exact h a ha
 | i :: is,k,m,T,T',a,w,hk,ha,hS,hcl,hc,hr,h=>by
   subst hk
   simp only [rdM,Bool.and_eq_true] at hr
   obtain⟨⟨⟨⟨h1,h2⟩,h4⟩,h6⟩,h7⟩:=hr
   cases ho:ops[i]? with
   | none=>rw[ho] at h1;cases h1
   | some o =>
     rw[ho] at h1
     simp only [Bool.and_eq_true,Bool.not_eq_true'] at h1
     have haf:=sL h1.2
     have hop:l8 ops rs (i :: is)=(o,rs.contains i) :: l8 ops rs is:=by simp only [l8,ho]
     rw[hop] at hc
     have h4':i≠e:=of_decide_eq_true h4
     have hrd:=oX ho h1.1 haf
     have hrb:(Region.ready md ops (lst ops.size m)).contains i=true:=List.contains_iff_mem.2 hrd
     have hf:=qM hp ho haf
     have hS1:(lst ops.size m).getD e false=false→S w:=fun h=>hS.elim (fun h=>h) (fun h9=>by rw[jy,if_pos h9.2.1,h9.1] at h;cases h)
     have hS2:S w∨(Nat.testBit (m ||| (1 <<< i)) e=true∧e<ops.size∧rs=[]):=hS.imp (fun h=>h) (fun h9=>⟨by rw[Nat.testBit_or,h9.1];rfl,h9.2⟩)
     have hcl2:rs=[]∨jC md ops (lst ops.size (m ||| (1 <<< i)))=true:=hcl.imp (fun h=>h) (fun h=>by
       have:=(jK h).set hrd
       rw[k7] at this
       exact pX this)
     have go {d:Tmp} {v:Value} (ha':Has n ((d,v) :: T) (a.put (some d) v)) (tl:Cd P n ops S (l8 ops rs is) ((d,v) :: T) T'):ik P md ops Q e S (fuel+is.length) ((lst ops.size m).setIfInBounds i true) (a.put (some d) v) w:=by
       rw[k7]
       exact oY rs hp hs hQ is rfl ha' hS2 hcl2 tl h7 h
     generalize hb:rs.contains i=b at hc
     cases hc with
     | c hy tl hg ht =>
       rw[hb] at h6
       simp only [Bool.not_true,Bool.false_or,Bool.or_eq_true] at h6
       have hne:rs≠[]:=fun h=>by rw[h] at hb;cases hb
       have hS0:S w:=hS.elim (fun h=>h) (fun h9=>absurd h9.2.2 hne)
       have hc0:=hcl.resolve_left hne
       rcases h6 with h9|h9
       · exact pU i (some _) hS0 ho rfl hs hf hrb hc0 (by rw[h9,h4];rfl) (fun c a w=>hQ c a _ _ w) (lF ha hg) (fun W hW=>hy W hW a ha) (go (ha.put ht _) tl)
       exact n7 i (some _) hS0 ho rfl hs hf hrb hc0 (by rw[h9,h4];rfl) (fun c a w=>hQ c a _ _ w) (lF ha hg) (fun W hW=>hy W hW a ha) (go (ha.put ht _) tl)
     | p hy tl hg ht=>exact qN i (some _) hS1 ho rfl hs hf hrb h4 (fun c a w=>hQ c a _ _ w) (lF ha hg) (fun W=>hy W a ha) (go (ha.put ht _) tl)
     | s tl hj hb ht2 ht=>exact k6 i (some _) hS1 ho rfl hs hf hrb h4 (fun c a w=>hQ c a _ _ w) (by simp [Region.wanted,ha.yielded hj hb ht2]) (go (ha.put ht _) tl)
     | u tl hj hb ht2 ht=>exact k6 i (some _) hS1 ho rfl hs hf hrb h4 (fun c a w=>hQ c a _ _ w) (by simp [Region.wanted,ha.unyielded hj hb ht2]) (go (ha.put ht _) tl)
theorem region_p {P:Program} {a:Act} {w w0:World} {X:Cx} {M B:Mm} {ops:Array Oper} {Q:Exit→Act→World→Prop} (e:Nat) (mB:MemOk X w0 B w) (m:MemOk X w0 M w) {id:Nat} (hm:P.follows .mixedOrders=true)
   (h:∀ w',nC .any ops=true→MemOk X w0 M w'→ik P .any ops Q e (MemOk X w0 B) ops.size (Array.replicate ops.size false) a w') (hp:nC .any ops=true:=by kernel_rfl):(Code.region id ops true).wp P Q a w:=sG e mB m hm (fun w' _ m'=>h w' hp m')
theorem goR(hp:nC md ops=true)(is rs:List Nat)(k m m':Nat){T T':List (Nat×Value)}{a:Act}{w:World}{listed:Array Bool}(ha:Has n T a)(hS:S w)(hc:Cd P n ops S (l8 ops rs is) T T')(h:∀ a',Has n T' a'→ik P md ops Q e S fuel (lst ops.size m') a' w)(hl:listed=lst ops.size m:=by kernel_rfl)(hm:m'=mV m is:=by kernel_rfl)(hk:is.length=k:=by rfl)(hcl:jC md ops (lst ops.size m)=true:=by kernel_rfl)(hs:Region.noSelect ops=true:=by kernel_rfl)(hr:rdM md ops e rs m is=true:=by kernel_rfl)(hQ:∀ c a d v w,Q (.panic c) (a.put (some d) v) w→Q (.panic c) a w:=by exact fun _ _ _ _ _ h=>h):ik P md ops Q e S (fuel+k) listed a w:=by
 subst hl;subst hm
 exact oY rs hp hs hQ is hk ha (.inl hS) (.inr hcl) hc hr h
theorem goA(hp:nC md ops=true)(is:List Nat)(k m m':Nat){T T':List (Nat×Value)}{a:Act}{w:World}{listed:Array Bool}(ha:Has n T a)(hS:S w)(hc:Cd P n ops S (l8 ops [] is) T T')(h:∀ a',Has n T' a'→ik P md ops Q e S fuel (lst ops.size m') a' w)(hl:listed=lst ops.size m:=by kernel_rfl)(hm:m'=mV m is:=by kernel_rfl)(hk:is.length=k:=by rfl)(hs:Region.noSelect ops=true:=by kernel_rfl)(hr:rdM md ops e [] m is=true:=by kernel_rfl)(hQ:∀ c a d v w,Q (.panic c) (a.put (some d) v) w→Q (.panic c) a w:=by exact fun _ _ _ _ _ h=>h):ik P md ops Q e S (fuel+k) listed a w:=by
 subst hl;subst hm
 exact oY [] hp hs hQ is hk ha (.inl hS) (.inl rfl) hc hr h
theorem goB(hp:nC md ops=true)(is:List Nat)(k m m':Nat){T T':List (Nat×Value)}{a:Act}{w:World}{listed:Array Bool}(ha:Has n T a)(hc:Cd P n ops S (l8 ops [] is) T T')(h:∀ a',Has n T' a'→ik P md ops Q e S fuel (lst ops.size m') a' w)(hl:listed=lst ops.size m:=by kernel_rfl)(hm:m'=mV m is:=by kernel_rfl)(hk:is.length=k:=by rfl)(hb:(Nat.testBit m e && Nat.blt e ops.size)=true:=by kernel_rfl)(hs:Region.noSelect ops=true:=by kernel_rfl)(hr:rdM md ops e [] m is=true:=by kernel_rfl)(hQ:∀ c a d v w,Q (.panic c) (a.put (some d) v) w→Q (.panic c) a w:=by exact fun _ _ _ _ _ h=>h):ik P md ops Q e S (fuel+k) listed a w:=by
 subst hl;subst hm
 rw[Bool.and_eq_true] at hb
 exact oY [] hp hs hQ is hk ha (.inr ⟨hb.1,by simpa [Nat.blt_eq] using hb.2,rfl⟩) (.inl rfl) hc hr h
end
/-! short -/
section
variable {P:Program} {n:Nat} {ops:Array Oper} {S:World→Prop} {L:List (Oper×Bool)} {T T':List (Nat×Value)} {w0:World} {X:Cx} {M:Mm} {dd:Tmp} {tt:TypeId} {pos:String} {af:Array Edge} {gd:Option (Nat×Bool)} {x y z:Operand} {k:IntKind} {p q r:Int} {t t2:TypeId}
theorem Cd.move{x:Operand}(hx:evT T x=some v)(tl:Cd P n ops S L ((dd,v) :: T) T')(hg:gdB ops n T gd=true:=by rfl)(ht:Nat.blt dd n=true:=by rfl):Cd P n ops S ((⟨some dd,.move x,tt,pos,af,gd⟩,false) :: L) T T':=.p (fun W _ h=>qC h hx) tl hg ht
theorem Cd.assign{x:Operand}(hx:evT T x=some v)(tl:Cd P n ops S L ((dd,v) :: T) T')(hg:gdB ops n T gd=true:=by rfl)(ht:Nat.blt dd n=true:=by rfl):Cd P n ops S ((⟨some dd,.assign x,tt,pos,af,gd⟩,false) :: L) T T':=.p (fun W _ h=>oN h hx) tl hg ht
theorem Cd.pickT{c x y:Operand}(hc:evT T c=some (.bool true))(hx:evT T x=some v)(tl:Cd P n ops S L ((dd,v) :: T) T')(hg:gdB ops n T gd=true:=by rfl)(ht:Nat.blt dd n=true:=by rfl):Cd P n ops S ((⟨some dd,.pick c x y,tt,pos,af,gd⟩,false) :: L) T T':=.p (fun W _ h=>kF h hc hx) tl hg ht
theorem Cd.pickF{c x y:Operand}(hc:evT T c=some (.bool false))(hx:evT T y=some v)(tl:Cd P n ops S L ((dd,v) :: T) T')(hg:gdB ops n T gd=true:=by rfl)(ht:Nat.blt dd n=true:=by rfl):Cd P n ops S ((⟨some dd,.pick c x y,tt,pos,af,gd⟩,false) :: L) T T':=.p (fun W _ h=>j0 h hc hx) tl hg ht
theorem Cd.not{t:TypeId}{x:Operand}{b:Bool}(hx:evT T x=some (.bool b))(tl:Cd P n ops S L ((dd,(.bool !b)) :: T) T')(hg:gdB ops n T gd=true:=by rfl)(ht:Nat.blt dd n=true:=by rfl):Cd P n ops S ((⟨some dd,.unOp .not t x,tt,pos,af,gd⟩,false) :: L) T T':=.p (fun W _ h=>ur h hx) tl hg ht
theorem Cd.len{t e:TypeId}{x:Operand}{p:Option Addr}{l c:Nat}(hx:evT T x=some (.slice p l c))(hu:P.underlying t=some (.slice e))(tl:Cd P n ops S L ((dd,(.int .i64 l)) :: T) T')(hg:gdB ops n T gd=true:=by rfl)(ht:Nat.blt dd n=true:=by rfl):Cd P n ops S ((⟨some dd,.call { callee:=.builtin .len,args:=#[x],argTypes:=#[t] },tt,pos,af,gd⟩,false) :: L) T T':=.p (fun W _ h=>ut h hx hu) tl hg ht
theorem Cd.add(hx:evT T x=some (.int k p))(hy:evT T y=some (.int k q))(hr:k.wrap (p+q)=r)(tl:Cd P n ops S L ((dd,(.int k r)) :: T) T')(hg:gdB ops n T gd=true:=by rfl)(ht:Nat.blt dd n=true:=by rfl):Cd P n ops S ((⟨some dd,.binOp .add t x y t2,tt,pos,af,gd⟩,false) :: L) T T':=.p (fun W _ h=>wM h hx hy hr) tl hg ht
theorem Cd.sub(hx:evT T x=some (.int k p))(hy:evT T y=some (.int k q))(hr:k.wrap (p - q)=r)(tl:Cd P n ops S L ((dd,(.int k r)) :: T) T')(hg:gdB ops n T gd=true:=by rfl)(ht:Nat.blt dd n=true:=by rfl):Cd P n ops S ((⟨some dd,.binOp .sub t x y t2,tt,pos,af,gd⟩,false) :: L) T T':=.p (fun W _ h=>wN h hx hy hr) tl hg ht
theorem Cd.mul(hx:evT T x=some (.int k p))(hy:evT T y=some (.int k q))(hr:k.wrap (p*q)=r)(tl:Cd P n ops S L ((dd,(.int k r)) :: T) T')(hg:gdB ops n T gd=true:=by rfl)(ht:Nat.blt dd n=true:=by rfl):Cd P n ops S ((⟨some dd,.binOp .mul t x y t2,tt,pos,af,gd⟩,false) :: L) T T':=.p (fun W _ h=>wO h hx hy hr) tl hg ht
theorem Cd.quo(hx:evT T x=some (.int k p))(hy:evT T y=some (.int k q))(h0:q≠0)(hr:k.wrap (p.tdiv q)=r)(tl:Cd P n ops S L ((dd,(.int k r)) :: T) T')(hg:gdB ops n T gd=true:=by rfl)(ht:Nat.blt dd n=true:=by rfl):Cd P n ops S ((⟨some dd,.binOp .quo t x y t2,tt,pos,af,gd⟩,false) :: L) T T':=.p (fun W _ h=>wP h hx hy h0 hr) tl hg ht
theorem Cd.rem(hx:evT T x=some (.int k p))(hy:evT T y=some (.int k q))(h0:q≠0)(hr:p.tmod q=r)(tl:Cd P n ops S L ((dd,(.int k r)) :: T) T')(hg:gdB ops n T gd=true:=by rfl)(ht:Nat.blt dd n=true:=by rfl):Cd P n ops S ((⟨some dd,.binOp .rem t x y t2,tt,pos,af,gd⟩,false) :: L) T T':=.p (fun W _ h=>uu h hx hy h0 hr) tl hg ht
theorem Cd.and(hx:evT T x=some (.int k p))(hy:evT T y=some (.int k q))(hr:k.wrap (BitVec.ofInt k.bits p &&& BitVec.ofInt k.bits q).toNat=r)(tl:Cd P n ops S L ((dd,(.int k r)) :: T) T')(hg:gdB ops n T gd=true:=by rfl)(ht:Nat.blt dd n=true:=by rfl):Cd P n ops S ((⟨some dd,.binOp .and t x y t2,tt,pos,af,gd⟩,false) :: L) T T':=.p (fun W _ h=>wQ h hx hy hr) tl hg ht
theorem Cd.or(hx:evT T x=some (.int k p))(hy:evT T y=some (.int k q))(hr:k.wrap (BitVec.ofInt k.bits p ||| BitVec.ofInt k.bits q).toNat=r)(tl:Cd P n ops S L ((dd,(.int k r)) :: T) T')(hg:gdB ops n T gd=true:=by rfl)(ht:Nat.blt dd n=true:=by rfl):Cd P n ops S ((⟨some dd,.binOp .or t x y t2,tt,pos,af,gd⟩,false) :: L) T T':=.p (fun W _ h=>y4 h hx hy hr) tl hg ht
theorem Cd.xor(hx:evT T x=some (.int k p))(hy:evT T y=some (.int k q))(hr:k.wrap (BitVec.ofInt k.bits p ^^^ BitVec.ofInt k.bits q).toNat=r)(tl:Cd P n ops S L ((dd,(.int k r)) :: T) T')(hg:gdB ops n T gd=true:=by rfl)(ht:Nat.blt dd n=true:=by rfl):Cd P n ops S ((⟨some dd,.binOp .xor t x y t2,tt,pos,af,gd⟩,false) :: L) T T':=.p (fun W _ h=>wR h hx hy hr) tl hg ht
theorem Cd.shl(hx:evT T x=some (.int k p))(hy:evT T y=some (.int yk q))(h0:0≤q)(hr:k.wrap (p*2 ^ min q.toNat k.bits)=r)(tl:Cd P n ops S L ((dd,(.int k r)) :: T) T')(hg:gdB ops n T gd=true:=by rfl)(ht:Nat.blt dd n=true:=by rfl):Cd P n ops S ((⟨some dd,.binOp .shl t x y t2,tt,pos,af,gd⟩,false) :: L) T T':=.p (fun W _ h=>wS h hx hy h0 hr) tl hg ht
theorem Cd.shr(hx:evT T x=some (.int k p))(hy:evT T y=some (.int yk q))(h0:0≤q)(hr:p.fdiv (2 ^ min q.toNat k.bits)=r)(tl:Cd P n ops S L ((dd,(.int k r)) :: T) T')(hg:gdB ops n T gd=true:=by rfl)(ht:Nat.blt dd n=true:=by rfl):Cd P n ops S ((⟨some dd,.binOp .shr t x y t2,tt,pos,af,gd⟩,false) :: L) T T':=.p (fun W _ h=>wT h hx hy h0 hr) tl hg ht
theorem Cd.lss(hx:evT T x=some (.int k p))(hy:evT T y=some (.int k q))(tl:Cd P n ops S L ((dd,(.bool (decide (p<q)))) :: T) T')(hg:gdB ops n T gd=true:=by rfl)(ht:Nat.blt dd n=true:=by rfl):Cd P n ops S ((⟨some dd,.binOp .lss t x y t2,tt,pos,af,gd⟩,false) :: L) T T':=.p (fun W _ h=>uw h hx hy) tl hg ht
theorem Cd.leq(hx:evT T x=some (.int k p))(hy:evT T y=some (.int k q))(tl:Cd P n ops S L ((dd,(.bool (decide (p≤q)))) :: T) T')(hg:gdB ops n T gd=true:=by rfl)(ht:Nat.blt dd n=true:=by rfl):Cd P n ops S ((⟨some dd,.binOp .leq t x y t2,tt,pos,af,gd⟩,false) :: L) T T':=.p (fun W _ h=>ux h hx hy) tl hg ht
theorem Cd.gtr(hx:evT T x=some (.int k p))(hy:evT T y=some (.int k q))(tl:Cd P n ops S L ((dd,(.bool (decide (q<p)))) :: T) T')(hg:gdB ops n T gd=true:=by rfl)(ht:Nat.blt dd n=true:=by rfl):Cd P n ops S ((⟨some dd,.binOp .gtr t x y t2,tt,pos,af,gd⟩,false) :: L) T T':=.p (fun W _ h=>uy h hx hy) tl hg ht
theorem Cd.geq(hx:evT T x=some (.int k p))(hy:evT T y=some (.int k q))(tl:Cd P n ops S L ((dd,(.bool (decide (q≤p)))) :: T) T')(hg:gdB ops n T gd=true:=by rfl)(ht:Nat.blt dd n=true:=by rfl):Cd P n ops S ((⟨some dd,.binOp .geq t x y t2,tt,pos,af,gd⟩,false) :: L) T T':=.p (fun W _ h=>uz h hx hy) tl hg ht
theorem Cd.eql(hx:evT T x=some (.int k p))(hy:evT T y=some (.int k q))(tl:Cd P n ops S L ((dd,(.bool (decide (p=q)))) :: T) T')(hg:gdB ops n T gd=true:=by rfl)(ht:Nat.blt dd n=true:=by rfl):Cd P n ops S ((⟨some dd,.binOp .eql t x y t2,tt,pos,af,gd⟩,false) :: L) T T':=.p (fun W _ h=>uA h hx hy) tl hg ht
theorem Cd.neq(hx:evT T x=some (.int k p))(hy:evT T y=some (.int k q))(tl:Cd P n ops S L ((dd,(.bool (decide (p≠q)))) :: T) T')(hg:gdB ops n T gd=true:=by rfl)(ht:Nat.blt dd n=true:=by rfl):Cd P n ops S ((⟨some dd,.binOp .neq t x y t2,tt,pos,af,gd⟩,false) :: L) T T':=.p (fun W _ h=>uB h hx hy) tl hg ht
theorem Cd.neqB{b c:Bool}(hx:evT T x=some (.bool b))(hy:evT T y=some (.bool c))(hu:P.underlying t=some .bool)(tl:Cd P n ops S L ((dd,(.bool (!(b == c)))) :: T) T')(hg:gdB ops n T gd=true:=by rfl)(ht:Nat.blt dd n=true:=by rfl):Cd P n ops S ((⟨some dd,.binOp .neq t x y t2,tt,pos,af,gd⟩,false) :: L) T T':=.p (fun W _ h=>tT h hx hy hu) tl hg ht
theorem Cd.eqlS{b c:ByteArray}(hx:evT T x=some (.string b))(hy:evT T y=some (.string c))(tl:Cd P n ops S L ((dd,(.bool (b.toList == c.toList))) :: T) T')(hg:gdB ops n T gd=true:=by rfl)(ht:Nat.blt dd n=true:=by rfl):Cd P n ops S ((⟨some dd,.binOp .eql t x y t2,tt,pos,af,gd⟩,false) :: L) T T':=.p (fun W _ h=>qD h hx hy) tl hg ht
theorem Cd.neqS{b c:ByteArray}(hx:evT T x=some (.string b))(hy:evT T y=some (.string c))(tl:Cd P n ops S L ((dd,(.bool (!(b.toList == c.toList)))) :: T) T')(hg:gdB ops n T gd=true:=by rfl)(ht:Nat.blt dd n=true:=by rfl):Cd P n ops S ((⟨some dd,.binOp .neq t x y t2,tt,pos,af,gd⟩,false) :: L) T T':=.p (fun W _ h=>oO h hx hy) tl hg ht
theorem Cd.eqlP{e:TypeId}{b:Option Addr}(hx:evT T x=some (.pointer b))(hy:evT T y=some (.pointer none))(hu:P.underlying t=some (.pointer e))(tl:Cd P n ops S L ((dd,(.bool b.isNone)) :: T) T')(hg:gdB ops n T gd=true:=by rfl)(ht:Nat.blt dd n=true:=by rfl):Cd P n ops S ((⟨some dd,.binOp .eql t x y t2,tt,pos,af,gd⟩,false) :: L) T T':=.p (fun W _ h=>tU h hx hy hu) tl hg ht
theorem Cd.conv{s e:TypeId}{k':IntKind}(hx:evT T x=some (.int k p))(hs:P.underlying s=some ds)(hd:P.underlying e=some (.int k'))(hr:k'.wrap p=r)(tl:Cd P n ops S L ((dd,(.int k' r)) :: T) T')(hg:gdB ops n T gd=true:=by rfl)(ht:Nat.blt dd n=true:=by rfl):Cd P n ops S ((⟨some dd,.convert s e x,tt,pos,af,gd⟩,false) :: L) T T':=.p (fun W _ h=>tV h hx hs hd hr) tl hg ht
theorem Cd.extract{x:Operand}{vs:Array Value}(hx:evT T x=some (.tuple vs))(hv:nT vs.toList i=some v)(tl:Cd P n ops S L ((dd,v) :: T) T')(hg:gdB ops n T gd=true:=by rfl)(ht:Nat.blt dd n=true:=by rfl):Cd P n ops S ((⟨some dd,.extract x i,tt,pos,af,gd⟩,false) :: L) T T':=.p (fun W _ h=>nz h hx hv) tl hg ht
theorem Cd.nilCheck{x:Operand}{p:Addr}(hx:evT T x=some (.pointer (some p)))(tl:Cd P n ops S L ((dd,(.pointer (some p))) :: T) T')(hg:gdB ops n T gd=true:=by rfl)(ht:Nat.blt dd n=true:=by rfl):Cd P n ops S ((⟨some dd,.nilCheck x,tt,pos,af,gd⟩,false) :: L) T T':=.p (fun W _ h=>k3 h hx) tl hg ht
theorem Cd.fieldAddr{t:TypeId}{x:Operand}{i g o:Nat}{fs:Array Field}{f:Field}{s off:Nat}(hx:evT T x=some (.pointer (some ⟨g,o,none⟩)))(hu:P.underlying t=some (.struct fs))(hf:fs[i]? = some f)(hs:(P.info? f.type).map (·.size)=some (s+1))(ho:o+f.offset=off)(tl:Cd P n ops S L ((dd,(.pointer (some ⟨g,off,none⟩))) :: T) T')(hg:gdB ops n T gd=true:=by rfl)(ht:Nat.blt dd n=true:=by rfl):Cd P n ops S ((⟨some dd,.fieldAddr t x i,tt,pos,af,gd⟩,false) :: L) T T':=.p (fun W _ h=>jf h hx hu hf hs ho) tl hg ht
theorem Cd.fieldAddrQ{t:TypeId}{x:Operand}{i g o:Nat}{fs:Array Field}{f:Field}{s:Nat}(q:Nat)(hx:evT T x=some (.pointer (some ⟨g,o,none⟩)))(hu:P.underlying t=some (.struct fs))(hf:fs[i]? = some f)(hs:(P.info? f.type).map (·.size)=some (s+1))(hq:f.offset=q)(tl:Cd P n ops S L ((dd,(.pointer (some ⟨g,o+q,none⟩))) :: T) T')(hg:gdB ops n T gd=true:=by rfl)(ht:Nat.blt dd n=true:=by rfl):Cd P n ops S ((⟨some dd,.fieldAddr t x i,tt,pos,af,gd⟩,false) :: L) T T':=.p (fun W _ h=>kg h q hx hu hf hs hq) tl hg ht
theorem Cd.build{t:TypeId}{parts:Array (Nat×Operand)}{z cs:List Value}{pl:List (Nat×Value)}(hp:K.evP T parts.toList=some pl)(hz:((P.info? t).bind (·.zero)).map (·.cells.toList)=some z)(hf:iO P t z=true)(h1:pl.all (fun p=>decide (p.1<z.length) && p.2.oneCell')=true)(hc:iY z pl=cs)(tl:Cd P n ops S L ((dd,(.agg cs.toArray)) :: T) T')(hg:gdB ops n T gd=true:=by rfl)(ht:Nat.blt dd n=true:=by rfl):Cd P n ops S ((⟨some dd,.build t parts,tt,pos,af,gd⟩,false) :: L) T T':=.p (fun W _ h=>nW h hp hz hf h1 hc) tl hg ht
theorem Cd.loadB1(m:∀ W,S W→MemOk X w0 M W){t:TypeId}{td:TypeDesc}{x:Operand}{e:TypeId}(hm:lk M i=some (.box g e cs))(hx:evT T x=some (.pointer (some ⟨g,o,none⟩)))(hv:cs[o]? = some v)(hu:P.underlying t=some td)(hr:td.isRow=false)(tl:Cd P n ops S L ((dd,v) :: T) T')(hg:gdB ops n T gd=true:=by rfl)(ht:Nat.blt dd n=true:=by rfl):Cd P n ops S ((⟨some dd,.load t x,tt,pos,af,gd⟩,true) :: L) T T':=.c (fun W hW _ h=>jx h (m W hW) hm hx hv hu hr) tl hg ht
theorem Cd.loadBR(m:∀ W,S W→MemOk X w0 M W){t:TypeId}{td:TypeDesc}{x:Operand}{i g o k:Nat}{e:TypeId}{cs vs:List Value}(hm:lk M i=some (.box g e cs))(hx:evT T x=some (.pointer (some ⟨g,o,none⟩)))(hu:P.underlying t=some td)(hr:td.isRow=true)(hs:(P.info? t).map (·.size)=some k)(hk:o+k≤cs.length)(hv:(cs.drop o).take k=vs)(tl:Cd P n ops S L ((dd,(.agg vs.toArray)) :: T) T')(hg:gdB ops n T gd=true:=by rfl)(ht:Nat.blt dd n=true:=by rfl):Cd P n ops S ((⟨some dd,.load t x,tt,pos,af,gd⟩,true) :: L) T T':=.c (fun W hW _ h=>mP h (m W hW) hm hx hu hr hs hk hv) tl hg ht
theorem Cd.loadC1(m:∀ W,S W→MemOk X w0 M W){t:TypeId}{td:TypeDesc}{x:Operand}{i b o q:Nat}(hm:lk M i=some (.cel b o vs))(hx:evT T x=some (.pointer (some ⟨b,o+q,none⟩)))(hv:vs[q]? = some v)(hu:P.underlying t=some td)(hr:td.isRow=false)(tl:Cd P n ops S L ((dd,v) :: T) T')(hg:gdB ops n T gd=true:=by rfl)(ht:Nat.blt dd n=true:=by rfl):Cd P n ops S ((⟨some dd,.load t x,tt,pos,af,gd⟩,true) :: L) T T':=.c (fun W hW _ h=>mQ h (m W hW) hm hx hv hu hr) tl hg ht
theorem Cd.loadC0(m:∀ W,S W→MemOk X w0 M W){t:TypeId}{td:TypeDesc}{x:Operand}{i b o:Nat}(hm:lk M i=some (.cel b o (v :: vs)))(hx:evT T x=some (.pointer (some ⟨b,o,none⟩)))(hu:P.underlying t=some td)(hr:td.isRow=false)(tl:Cd P n ops S L ((dd,v) :: T) T')(hg:gdB ops n T gd=true:=by rfl)(ht:Nat.blt dd n=true:=by rfl):Cd P n ops S ((⟨some dd,.load t x,tt,pos,af,gd⟩,true) :: L) T T':=.c (fun W hW _ h=>oR h (m W hW) hm hx hu hr) tl hg ht
theorem Cd.loadCR(m:∀ W,S W→MemOk X w0 M W){t:TypeId}{td:TypeDesc}{x:Operand}{i b o:Nat}{vs:List Value}(hm:lk M i=some (.cel b o vs))(hx:evT T x=some (.pointer (some ⟨b,o,none⟩)))(hu:P.underlying t=some td)(hr:td.isRow=true)(hs:(P.info? t).map (·.size)=some vs.length)(tl:Cd P n ops S L ((dd,(.agg vs.toArray)) :: T) T')(hg:gdB ops n T gd=true:=by rfl)(ht:Nat.blt dd n=true:=by rfl):Cd P n ops S ((⟨some dd,.load t x,tt,pos,af,gd⟩,true) :: L) T T':=.c (fun W hW _ h=>oS h (m W hW) hm hx hu hr hs) tl hg ht
theorem Cd.str{s t e:TypeId}{x:Operand}(hx:evT T x=some v)(hv:∀ W,S W→IsNums .u8 W v bs)(hs:P.underlying s=some (.slice e))(he:P.underlying e=some (.int .u8))(hd:P.underlying t=some .string)(tl:Cd P n ops S L ((dd,(.string (strOfNums bs))) :: T) T')(hg:gdB ops n T gd=true:=by rfl)(ht:Nat.blt dd n=true:=by rfl):Cd P n ops S ((⟨some dd,.convert s t x,tt,pos,af,gd⟩,true) :: L) T T':=.c (fun W hW _ h=>pT h hx (hv W hW) hs he hd) tl hg ht
theorem Cd.loadAt{t:TypeId}{td:TypeDesc}{x:Operand}{b o:Nat}{vs:List Value}(hr:∀ W,S W→W.rangeAt b o vs)(hx:evT T x=some (.pointer (some ⟨b,o,none⟩)))(hu:P.underlying t=some td)(hd:td.isRow=true)(hs:(P.info? t).map (·.size)=some vs.length)(tl:Cd P n ops S L ((dd,(.agg vs.toArray)) :: T) T')(hg:gdB ops n T gd=true:=by rfl)(ht:Nat.blt dd n=true:=by rfl):Cd P n ops S ((⟨some dd,.load t x,tt,pos,af,gd⟩,true) :: L) T T':=.c (fun W hW _ h=>oW h (hr W hW) hx hu hd hs) tl hg ht
theorem Cd.loadAt1{t:TypeId}{td:TypeDesc}{x:Operand}{b o q q':Nat}(hr:∀ W,S W→W.rangeAt b o vs)(hx:evT T x=some (.pointer (some ⟨b,q',none⟩)))(hq:q'=o+q)(hv:nT vs q=some v)(hu:P.underlying t=some td)(hd:td.isRow=false)(tl:Cd P n ops S L ((dd,v) :: T) T')(hg:gdB ops n T gd=true:=by rfl)(ht:Nat.blt dd n=true:=by rfl):Cd P n ops S ((⟨some dd,.load t x,tt,pos,af,gd⟩,true) :: L) T T':=.c (fun W hW _ h=>kM h (hr W hW) hx hq hv hu hd) tl hg ht
theorem Cd.cap{t e:TypeId}{x:Operand}{p:Option Addr}{l c:Nat}(hx:evT T x=some (.slice p l c))(hu:P.underlying t=some (.slice e))(tl:Cd P n ops S L ((dd,(.int .i64 c)) :: T) T')(hg:gdB ops n T gd=true:=by rfl)(ht:Nat.blt dd n=true:=by rfl):Cd P n ops S ((⟨some dd,.call { callee:=.builtin .cap,args:=#[x],argTypes:=#[t] },tt,pos,af,gd⟩,false) :: L) T T':=.p (fun W _ h=>wL h hx hu) tl hg ht
end
section
variable {P:Program} {n:Nat} {ops:Array Oper} {S:World→Prop} {L:List (Oper×Bool)} {T T':List (Nat×Value)} {w0:World} {X:Cx} {M:Mm} {dd:Tmp} {tt:TypeId} {pos:String} {af:Array Edge} {gd:Option (Nat×Bool)}
theorem Cd.fa{t:TypeId}{x:Operand}{fs:Array Field}{f:Field}(off)(hx:evT T x=some (.pointer (some ⟨g,o,none⟩)))(hu:P.underlying t=some (.struct fs))(tl:Cd P n ops S L ((dd,(.pointer (some ⟨g,off,none⟩))) :: T) T')(hf:fs[i]? = some f:=by rfl)(hs:(P.info? f.type).map (·.size)=some (0+1):=by kernel_rfl)(ho:o+f.offset=off:=by rfl)(hg:gdB ops n T gd=true:=by rfl)(ht:Nat.blt dd n=true:=by rfl):Cd P n ops S ((⟨some dd,.fieldAddr t x i,tt,pos,af,gd⟩,false) :: L) T T':=.p (fun W _ h=>jf h hx hu hf hs ho) tl hg ht
theorem Cd.lb(m:∀ W,S W→MemOk X w0 M W)(i){t:TypeId}{td:TypeDesc}{x:Operand}{e:TypeId}(hu:P.underlying t=some td)(hx:evT T x=some (.pointer (some ⟨g,o,none⟩)))(hm:lk M i=some (.box g e cs))(hv:cs[o]? = some v)(tl:Cd P n ops S L ((dd,v) :: T) T')(hr:td.isRow=false:=by rfl)(hg:gdB ops n T gd=true:=by rfl)(ht:Nat.blt dd n=true:=by rfl):Cd P n ops S ((⟨some dd,.load t x,tt,pos,af,gd⟩,true) :: L) T T':=.c (fun W hW _ h=>jx h (m W hW) hm hx hv hu hr) tl hg ht
end
end
section
theorem lZ:iO Tryz.prog 51 [.int .i64 0,.int .i64 0,.int .i64 0,.int .i64 0,.slice none 0 0,.int .i64 0,.int .i64 0,.bool false,.int .i64 0,.slice none 0 0,.slice none 0 0]=true:=by kernel_rfl
def nb(bl pe:Int)(place:List Int):Prop:=(∀ g∈place,1≤g∧g≤7)∧(place.length:Int)=(bl+pe - 1) / pe
def iQ(vo bl sz pe to:Int)(place:List Int):Prop:=0≤vo∧vo≤7∧1≤bl∧bl≤256∧1≤sz∧sz≤32∧1≤pe∧pe≤bl∧nb bl pe place∧0≤to∧to≤1099511627776
theorem iy{l:List Int}(h:k<l.length):l.getD k 0∈l:=by rw[List.getD,List.getElem?_eq_getElem h];exact List.getElem_mem _
theorem pK{l:List Int}{P:Int→Prop}(h:∀ j,j<k→P (l.getD j 0))(hk:P (l.getD k 0)):∀ j,j<k+1→P (l.getD j 0):=fun j hj=>by
 rcases Nat.lt_or_ge j k with h1|h1
 · exact h j h1
 obtain rfl:j=k:=by omega
 exact hk
theorem rQ{l:List Int}{P:Int→Prop}(h:∀ j,j<l.length→P (l.getD j 0)):∀ g∈l,P g:=fun g hg=>by
 obtain⟨j,hj,rfl⟩:=List.getElem_of_mem hg
 have:=h j hj
 rwa [List.getD,List.getElem?_eq_getElem hj] at this
theorem kz(d:List Int)(p0 c0)(w0:World)(h0:Rd (fun _=>True) w0 (.slice p0 d.length c0) (.ns .i64 d))(hd:d.length≤1000000) :
   Calls Tryz.prog 99 #[.slice p0 d.length c0] w0 fun e w' => ∃ p c,e=.returned (.slice p d.length c)∧Rd (New w0) w' (.slice p d.length c) (.ns .i64 d)∧Below w0.heap.size w0 w':=by
 refine i9 Tryz.func99 rfl Tryz.ntmps99 fun Y U =>?_
 have m0:=MemOk.start (fun _=>False) w0
 refine hC U (.assign rfl .nil) fun Y U=>zsr fun K0 hK0=>g9 U (.move rfl .nil) fun Y U=>plz<|jr U m0 2 rfl rfl (h0.now' m0 rfl).ns_out.nums U35 jI (by decide) (by omega) rfl fun p4 c4 Y w5 U m5=>gz hK0 U (.assign rfl .nil) fun Y U=>rt1 U ?_
 have m7:=m5.freezeN 2 rfl
 exact⟨_,_,rfl,m7.outF (i:=2) rfl,m7.below⟩
theorem jg(n lo hi)(w0:World) :
   Calls Tryz.prog 110 #[.int .i64 n,.int .i64 lo,.int .i64 hi] w0 fun e w'=>e=.returned (.bool (decide (lo≤n∧n≤hi)))∧Below w0.heap.size w0 w':=by
 refine uI Tryz.func110 rfl Tryz.ntmps110 fun Y U =>?_
 have m0:=MemOk.start (fun _=>False) w0
 refine hC U (.assign rfl .nil) fun Y U=>zsr fun K0 hK0=>g9 U (.move rfl<|.move rfl<|.geq rfl rfl<|.move rfl .nil) fun Y U=>bc U 10 ?_ ?_
 ·
  intro hb10 U;try simp only [QQ,Qax] at hb10
  refine gz hK0 U (.moveZ rfl<|.moveZ rfl<|.leqZ rfl rfl<|.pickT rfl rfl<|.assign rfl<|.nil) fun Y U=>rt1 U ?_
  exact⟨by first|rfl|(simp_all;done)|(simp_all;omega),m0.below⟩
 intro hb10 U;try simp only [QQ,Qax] at hb10
 refine gz hK0 U (.sk<|.sk<|.sk<|.pickF rfl rfl<|.assign rfl<|.nil) fun Y U=>rt1 U ?_
 exact⟨by first|rfl|(simp_all;done)|(simp_all;omega),m0.below⟩
theorem mg(a b:Int)(w0:World)(ha:0≤a∧a≤1000000)(hb:1≤b∧b≤1000000) :
   Calls Tryz.prog 91 #[.int .i64 a,.int .i64 b] w0 fun e w'=>e=.returned (.int .i64 ((a+b - 1) / b))∧Below w0.heap.size w0 w':=by
 refine iZ Tryz.func91 rfl Tryz.ntmps91 fun Y U =>?_
 have m0:=MemOk.start (fun _=>False) w0
 refine hC U (.assign rfl .nil) fun Y U=>hC U (.move rfl<|.move rfl<|.add rfl rfl (r:=a+b) (IntWalk.i64_in _ (by omega))<|.sub rfl rfl (r:=a+b - 1) (IntWalk.i64_in _ (by omega))<|.move rfl<|.quo rfl rfl (by omega) (r:=(a+b - 1) / b) (by rw[Int.tdiv_eq_ediv_of_nonneg (by omega)];exact IntWalk.i64_in _ (by have:=Int.ediv_le_self b (show 0≤a+b - 1 by omega);have:=Int.ediv_nonneg (show 0≤a+b - 1 by omega) (show 0≤b by omega);omega))<|.assign rfl .nil) fun Y U=>rt1 U ?_
 exact⟨rfl,m0.below⟩
theorem je(vo bl sz pe to ne fl:Int)(hi)(pp pn pw:Option Addr)(np cp nn cn nw cw:Nat)(w0:World) :
   Calls Tryz.prog 111 #[.agg #[.int .i64 vo,.int .i64 bl,.int .i64 sz,.int .i64 pe,.slice pp np cp,.int .i64 to,.int .i64 ne,.bool hi,.int .i64 fl,.slice pn nn cn,.slice pw nw cw]] w0 fun e w'=>e=.returned (.int .i64 (nw:Int))∧Below w0.heap.size w0 w':=by
 refine i9 Tryz.func111 rfl Tryz.ntmps111 fun Y U =>?_
 have m0:=MemOk.start (fun _=>False) w0
 refine zsr fun K0 hK0=>plz<|iu U m0 4 (cs:=[_,_,_,_,_,_,_,_,_,_,_]) rfl rfl rfl fun g1 Y w2 U m2 _ _=>gz hK0 U (.assign rfl .nil) fun Y U=>hC U (.fa 10 rfl U51<|.lb m2 4 U49 rfl rfl rfl<|.len rfl U49<|.assign rfl .nil) fun Y U=>rt1 U ?_
 exact⟨rfl,m2.below⟩
theorem rR(kd vo bl sz pe to at0 ix:Int)(place:List Int)(pp pi)(cp ni ci:Nat)(w0:World)(h0:Rd (fun _=>True) w0 (.slice pp place.length cp) (.ns .i64 place))(hn:place.length≤1000000)(hb:1≤bl∧bl≤256)(hp:1≤pe∧pe≤256) :
   Calls Tryz.prog 132 #[.agg #[.int .i64 kd,.int .i64 vo,.int .i64 bl,.int .i64 sz,.int .i64 pe,.slice pp place.length cp,.int .i64 to,.int .i64 at0,.int .i64 ix,.slice pi ni ci]] w0 fun e w' => ∃ b:Bool,e=.returned (.bool b)∧(b=true↔nb bl pe place)∧Below w0.heap.size w0 w':=by
 refine i9 Tryz.func132 rfl Tryz.ntmps132 fun Y U =>?_
 have m0:=MemOk.start (fun _=>False) w0
 refine zsr fun K0 hK0=>plz<|iu U m0 20 (cs:=[_,_,_,_,_,_,_,_,_,_]) rfl rfl rfl fun g1 Y w2 U m2 _ _=>gz hK0 U (.assign rfl .nil) fun Y U=>wsk fun K1 hK1=>hC U (.fa 5 rfl U38<|.lb m2 20 U35 rfl rfl rfl<|.len rfl U35<|.move rfl .nil) fun Y U=>wp_block<|wp_loop_ghost (fun g a w => ∃ (k B:Nat),k≤place.length∧g=place.length - k∧(∀ j,j<k→1≤place.getD j 0∧place.getD j 0≤7)∧Has 29 [(1,.pointer (some ⟨B,0,none⟩)),(6,.slice pp place.length cp),(7,.int .i64 place.length),(8,.int .i64 k)] a∧MemOk (cn w0) w0 [(9,.box B 38 [.int .i64 kd,.int .i64 vo,.int .i64 bl,.int .i64 sz,.int .i64 pe,.slice pp place.length cp,.int .i64 to,.int .i64 at0,.int .i64 ix,.slice pi ni ci])] w) (place.length) ?_ ?_
 · exact⟨0,_,Nat.zero_le _,rfl,(fun j hj=>by omega),U.only [1,6,7,8],m2.ren [(9,20)] (by decide)⟩
 clear U m2
 rintro g Y w8 ⟨k,B,hkl,hg,hall,U,m8⟩
 refine hC U (.lss rfl rfl .nil) fun Y U=>wsk fun K2 hK2=>bc U 9 ?_ ?_
 ·
  intro aa U;try simp only [QQ,Qax] at aa
  have hk:k<place.length:=by omega
  refine wct U<|zss<|hK2 _ _<|wsk fun K3 hK3=>wp_block<|zsr fun K4 hK4 =>?_
  obtain⟨aj,ak,ad,al,ac⟩:=h0.extN (k) hk
  revert U
  cases ad
  intro U
  refine gz hK4 U (.c rfl (fun _ h_=>ii h_ rfl rfl U35 iG (k) rfl hk)<|.loadAt1 (ac m8 rfl) (q:=0) rfl rfl rfl U3 rfl<|.assign rfl<|.nil) fun Y U=>zsr fun K5 hK5=>g9 U (.move rfl .nil) fun Y U=>plz<|ecb U Tryz.func110 rfl m8 (jg _ _ _ _) fun Y ao U ah=>gz hK5 U (.not rfl .nil) fun Y U=>bc U 14 ?_ ?_
  ·
   intro ab U;try simp only [QQ,Qax] at ab
   refine wct U ?_
   replace U:=U.oz [1,6,7,8]
   refine hC U (.assign rfl .nil) fun Y U=>rt1 U ?_
   exact⟨false,rfl,iff_of_false (by simp) (fun h=>by have h9:=h.1 _ (iy hk);omega),ah.below⟩
  intro ab U;try simp only [QQ,Qax] at ab
  refine wcf U<|zss (hK3 _ _ ?_)
  replace U:=U.oz [1,6,7,8]
  refine wp_region_lit<|g9 U (.inc (k+1)<|.move rfl .nil) fun Y U=>wpList_nil ?_
  show ∃ n',n'<_∧_
  exact⟨place.length - (k+1),by omega,k+1,_,by omega,rfl,(pK (P:=fun x=>1≤x∧x≤7) hall (by omega)),U.only [1,6,7,8],ah.only [9]⟩
 intro aa U;try simp only [QQ,Qax] at aa
 revert U
 obtain rfl:k=place.length:=by omega
 intro U
 refine wcf U<|wp_exit<|hK1 _ _<|wsk fun K6 hK6 =>?_
 have ae:=m8.oz [9]
 refine region_p 14 (B:=[(9,_)]) (ae.to i1l) ae (by kernel_rfl) (fun ap ag ai =>?_);clear ae
 refine goR ag [0,1,2,3,4,5,6,7,8,9,10,11,12,13] [1,4,6,10] 14 0 16383 U (ai.to i1l) (.fa 5 rfl U38<|.lb hh 9 U35 rfl rfl rfl<|.len rfl U35<|.fa 2 rfl U38<|.lb hh 9 U3 rfl rfl rfl<|.fa 4 rfl U38<|.lb hh 9 U3 rfl rfl rfl<|.add rfl rfl (r:=bl+pe) (IntWalk.i64_in _ (by omega))<|.sub rfl rfl (r:=bl+pe - 1) (IntWalk.i64_in _ (by omega))<|.fa 4 rfl U38<|.lb hh 9 U3 rfl rfl rfl<|.quo rfl rfl (by omega) (r:=(bl+pe - 1) / pe) (by rw[Int.tdiv_eq_ediv_of_nonneg (by omega)];exact IntWalk.i64_in _ (by have:=Int.ediv_le_self pe (show 0≤bl+pe - 1 by omega);have:=Int.ediv_nonneg (show 0≤bl+pe - 1 by omega) (show 0≤pe by omega);omega))<|.eql rfl rfl<|.assign rfl .nil) fun Y U=>wad<|hK6 _ _<|rt1 U ?_
 exact⟨_,rfl,by rw[decide_eq_true_eq];exact⟨fun h=>⟨fun g hg9=>rQ (P:=fun x=>1≤x∧x≤7) hall g hg9,h⟩,fun h=>h.2⟩,ai.below⟩
theorem ly(kd vo bl sz pe to at0 ix:Int)(place:List Int)(pp pi)(cp ni ci:Nat)(w0:World)(h0:Rd (fun _=>True) w0 (.slice pp place.length cp) (.ns .i64 place))(hn:place.length≤1000000) :
   Calls Tryz.prog 95 #[.agg #[.int .i64 kd,.int .i64 vo,.int .i64 bl,.int .i64 sz,.int .i64 pe,.slice pp place.length cp,.int .i64 to,.int .i64 at0,.int .i64 ix,.slice pi ni ci]] w0 fun e w'=>(iQ vo bl sz pe to place∧∃ p c,e=.returned (.tuple #[.agg #[.int .i64 vo,.int .i64 bl,.int .i64 sz,.int .i64 pe,.slice p place.length c,.int .i64 to,.int .i64 0,.bool (decide (0<to)),.int .i64 0,.slice none 0 0,.slice none 0 0],.int .i64 0])∧Rd (New w0) w' (.slice p place.length c) (.ns .i64 place)∧Below w0.heap.size w0 w')∨(¬ iQ vo bl sz pe to place∧e=.returned (.tuple #[.agg #[.int .i64 0,.int .i64 0,.int .i64 0,.int .i64 0,.slice none 0 0,.int .i64 0,.int .i64 0,.bool false,.int .i64 0,.slice none 0 0,.slice none 0 0],.int .i64 23])∧Below w0.heap.size w0 w'):=by
 refine i9 Tryz.func95 rfl Tryz.ntmps95 fun Y U =>?_
 have m0:=MemOk.start (fun _=>False) w0
 refine zsr fun K0 hK0=>plz<|iu U m0 20 (cs:=[_,_,_,_,_,_,_,_,_,_]) rfl rfl rfl fun g1 Y w2 U m2 _ _=>plz<|hZ U m2 21 iA rfl fun g3 Y w4 U m4 _ _=>gz hK0 U (.assign rfl .nil) fun Y U=>zsr fun K1 hK1=>g9 U (.fa 1 rfl U38<|.lb m4 20 U3 rfl rfl rfl .nil) fun Y U=>plz<|ecb U Tryz.func110 rfl m4 (jg _ _ _ _) fun Y aV U aC=>g9 U (.move rfl .nil) fun Y U=>bc U 8 ?_ ?_
 ·
  intro ad U;try simp only [QQ,Qax] at ad
  refine g9 U (.faZ 2 rfl U38<|.loadB1Z aC (i:=20) rfl rfl rfl U3 rfl .nil) fun Y U=>stz U (ecb U Tryz.func110 rfl aC (jg _ _ _ _) fun Y aW U aD =>?_)
  refine g9 U (.pickT rfl rfl<|.move rfl .nil) fun Y U=>bc U 13 ?_ ?_
  ·
   intro ae U;try simp only [QQ,Qax] at ae
   refine g9 U (.faZ 3 rfl U38<|.loadB1Z aD (i:=20) rfl rfl rfl U3 rfl .nil) fun Y U=>stz U (ecb U Tryz.func110 rfl aD (jg _ _ _ _) fun Y aX U aA =>?_)
   refine gz hK1 U (.pickT rfl rfl<|.assign rfl<|.nil) fun Y U=>wsk fun K2 hK2 =>?_
   replace U:=U.oz [1,2,3,4]
   refine zsr fun K3 hK3=>g9 U (.move rfl<|.not rfl<|.move rfl .nil) fun Y U=>bc U 20 ?_ ?_
   ·
    intro ag U;try simp only [QQ,Qax] at ag
    refine gz hK3 U (.sk<|.sk<|.sk<|.sk<|.sk<|.sk<|.pickT rfl rfl<|.move rfl<|.sk<|.sk<|.sk<|.pickT rfl rfl<|.move rfl<|.sk<|.sk<|.sk<|.sk<|.pickT rfl rfl<|.nil) fun Y U=>wct U ?_
    replace U:=U.oz [1,2,3]
    refine zsr fun K4 hK4=>g9 U (.build rfl iA lZ rfl (by dsimp only [iY,List.set] <;> rfl) .nil) fun Y U=>plz (stw U aA 21 hH fun aY aI _ =>?_)
    refine gz hK4 U (.assign rfl .nil) fun Y U=>rtd (iF (fn:=Tryz.f95) U aI (i:=21) rfl rfl rfl rfl U51 rfl hH ?_)
    exact .inr ⟨fun h=>by unfold iQ at h;obtain⟨h1,h2,h3,h4,h5,h6,h7,h8,h9,ao,ap⟩:=h;first|omega|(have aq:=hpb.2 h9;simp_all),rfl,aI.below⟩
   intro ag U;try simp only [QQ,Qax] at ag
   refine g9 U (.faZ 4 rfl U38<|.loadB1Z aA (i:=20) rfl rfl rfl U3 rfl<|.faZ 2 rfl U38<|.loadB1Z aA (i:=20) rfl rfl rfl U3 rfl .nil) fun Y U=>stz U (ecb U Tryz.func110 rfl aA (jg _ _ _ _) fun Y aZ U aB =>?_)
   refine g9 U (.notZ rfl<|.pickF rfl rfl<|.move rfl .nil) fun Y U=>bc U 28 ?_ ?_
   ·
    intro ah U;try simp only [QQ,Qax] at ah
    refine gz hK3 U (.sk<|.sk<|.sk<|.pickT rfl rfl<|.move rfl<|.sk<|.sk<|.sk<|.sk<|.pickT rfl rfl<|.nil) fun Y U=>wct U ?_
    replace U:=U.oz [1,2,3]
    refine zsr fun K5 hK5=>g9 U (.build rfl iA lZ rfl (by dsimp only [iY,List.set] <;> rfl) .nil) fun Y U=>plz (stw U aB 21 hH fun a0 aJ _ =>?_)
    refine gz hK5 U (.assign rfl .nil) fun Y U=>rtd (iF (fn:=Tryz.f95) U aJ (i:=21) rfl rfl rfl rfl U51 rfl hH ?_)
    exact .inr ⟨fun h=>by unfold iQ at h;obtain⟨h1,h2,h3,h4,h5,h6,h7,h8,h9,ao,ap⟩:=h;first|omega|(have aq:=hpb.2 h9;simp_all),rfl,aJ.below⟩
   intro ah U;try simp only [QQ,Qax] at ah
   refine g9 U (.loadBRZ aB (i:=20) rfl rfl U38 rfl ip (by simp) (by dsimp only [List.drop,List.take] <;> rfl) .nil) fun Y U=>stz U (ecl U Tryz.func132 rfl (rR _ _ _ _ _ _ _ _ _ _ _ _ _ _ _ (h0.now' aB rfl).any hn (by omega) (by omega)) ?_)
   rintro e a1 ⟨pb,rfl,hpb,aE⟩
   have aF:=aB.later aE
   refine⟨_,rfl,?_⟩;intro Y U
   refine g9 U (.notZ rfl<|.pickF rfl rfl<|.move rfl .nil) fun Y U=>bc U 33 ?_ ?_
   ·
    intro ai U;try simp only [QQ,Qax] at ai
    refine gz hK3 U (.sk<|.sk<|.sk<|.sk<|.pickT rfl rfl<|.nil) fun Y U=>wct U ?_
    replace U:=U.oz [1,2,3]
    refine zsr fun K6 hK6=>g9 U (.build rfl iA lZ rfl (by dsimp only [iY,List.set] <;> rfl) .nil) fun Y U=>plz (stw U aF 21 hH fun aK ar _ =>?_)
    refine gz hK6 U (.assign rfl .nil) fun Y U=>rtd (iF (fn:=Tryz.f95) U ar (i:=21) rfl rfl rfl rfl U51 rfl hH ?_)
    exact .inr ⟨fun h=>by unfold iQ at h;obtain⟨h1,h2,h3,h4,h5,h6,h7,h8,h9,ao,ap⟩:=h;first|omega|(have aq:=hpb.2 h9;simp_all),rfl,ar.below⟩
   intro ai U;try simp only [QQ,Qax] at ai
   refine g9 U (.faZ 6 rfl U38<|.loadB1Z aF (i:=20) rfl rfl rfl U3 rfl .nil) fun Y U=>stz U (ecb U Tryz.func110 rfl aF (jg _ _ _ _) fun Y aL U au =>?_)
   refine gz hK3 U (.notZ rfl<|.pickF rfl rfl<|.nil) fun Y U=>bc U 38 ?_ ?_
   ·
    intro aa U;try simp only [QQ,Qax] at aa
    refine wct U ?_
    replace U:=U.oz [1,2,3]
    refine zsr fun K7 hK7=>g9 U (.build rfl iA lZ rfl (by dsimp only [iY,List.set] <;> rfl) .nil) fun Y U=>plz (stw U au 21 hH fun aM av _ =>?_)
    refine gz hK7 U (.assign rfl .nil) fun Y U=>rtd (iF (fn:=Tryz.f95) U av (i:=21) rfl rfl rfl rfl U51 rfl hH ?_)
    exact .inr ⟨fun h=>by unfold iQ at h;obtain⟨h1,h2,h3,h4,h5,h6,h7,h8,h9,ao,ap⟩:=h;first|omega|(have aq:=hpb.2 h9;simp_all),rfl,av.below⟩
   intro aa U;try simp only [QQ,Qax] at aa
   refine wcf U<|zss<|hK2 _ _<|wsk fun K8 hK8 =>?_
   replace U:=U.oz [1,2,3]
   have aj:=au.oz [20,21]
   refine region_p 19 (B:=[(20,_)]) (aj.to i1l) aj (by kernel_rfl) (fun aN ab ak =>?_);clear aj
   refine goR ab [0,1,2,3,4,5,6,7,8,9,11,12,13,14,15] [1,3,5,7,9,12,14] 15 0 64511 U (ak.to i1l) (.fa 1 rfl U38<|.lb hh 20 U3 rfl rfl rfl<|.fa 2 rfl U38<|.lb hh 20 U3 rfl rfl rfl<|.fa 3 rfl U38<|.lb hh 20 U3 rfl rfl rfl<|.fa 4 rfl U38<|.lb hh 20 U3 rfl rfl rfl<|.fa 5 rfl U38<|.lb hh 20 U35 rfl rfl rfl<|.fa 6 rfl U38<|.lb hh 20 U3 rfl rfl rfl<|.fa 6 rfl U38<|.lb hh 20 U3 rfl rfl rfl<|.gtr rfl rfl .nil) fun Y U=>so 10 ?_
   refine ecl U Tryz.func99 rfl (kz place _ _ _ ((h0.now' ak rfl).any) hn) ?_
   rintro e aO ⟨aP,aQ,rfl,aw,ax⟩
   have al:=ak.callF 22 rfl ax aw
   refine⟨_,rfl,?_⟩;intro Y U
   refine⟨al.to i1l,?_⟩
   refine goA ab [16] 1 65535 131071 U (al.to i1l) (.build rfl iA lZ rfl (by dsimp only [iY,List.set] <;> rfl) .nil) fun Y U=>so 17 ?_
   refine stw U al 21 hH fun aR ac _ =>?_
   refine⟨ac.to i1l,?_⟩
   refine goA ab [18] 1 262143 524287 U (ac.to i1l) (.assign rfl .nil) fun Y U=>wad<|hK8 _ _<|rtd (iF (fn:=Tryz.f95) U ac (i:=21) rfl rfl rfl rfl U51 rfl hH ?_)
   exact .inl ⟨by unfold iQ;refine⟨by omega,by omega,by omega,by omega,by omega,by omega,by omega,by omega,hpb.1 (by simp_all),by omega,by omega⟩,_,_,rfl,ac.outF (i:=22) rfl,ac.below⟩
  intro ae U;try simp only [QQ,Qax] at ae
  refine gz hK1 U (.sk<|.sk<|.sk<|.pickF rfl rfl<|.assign rfl<|.nil) fun Y U=>wsk fun K9 hK9 =>?_
  replace U:=U.oz [1,2,3,4]
  refine hC U (.move rfl<|.not rfl<|.move rfl<|.sk<|.sk<|.sk<|.sk<|.sk<|.sk<|.pickT rfl rfl<|.move rfl<|.sk<|.sk<|.sk<|.pickT rfl rfl<|.move rfl<|.sk<|.sk<|.sk<|.sk<|.pickT rfl rfl .nil) fun Y U=>wct U ?_
  replace U:=U.oz [1,2,3]
  refine zsr fun a2 aG=>g9 U (.build rfl iA lZ rfl (by dsimp only [iY,List.set] <;> rfl) .nil) fun Y U=>plz (stw U aD 21 hH fun aS ay _ =>?_)
  refine gz aG U (.assign rfl .nil) fun Y U=>rtd (iF (fn:=Tryz.f95) U ay (i:=21) rfl rfl rfl rfl U51 rfl hH ?_)
  exact .inr ⟨fun h=>by unfold iQ at h;obtain⟨h1,h2,h3,h4,h5,h6,h7,h8,h9,ao,ap⟩:=h;first|omega|(have aq:=hpb.2 h9;simp_all),rfl,ay.below⟩
 intro ad U;try simp only [QQ,Qax] at ad
 refine gz hK1 U (.sk<|.sk<|.sk<|.pickF rfl rfl<|.move rfl<|.sk<|.sk<|.sk<|.pickF rfl rfl<|.assign rfl<|.nil) fun Y U=>wsk fun a3 aT =>?_
 replace U:=U.oz [1,2,3,4]
 refine hC U (.move rfl<|.not rfl<|.move rfl<|.sk<|.sk<|.sk<|.sk<|.sk<|.sk<|.pickT rfl rfl<|.move rfl<|.sk<|.sk<|.sk<|.pickT rfl rfl<|.move rfl<|.sk<|.sk<|.sk<|.sk<|.pickT rfl rfl .nil) fun Y U=>wct U ?_
 replace U:=U.oz [1,2,3]
 refine zsr fun a4 aH=>g9 U (.build rfl iA lZ rfl (by dsimp only [iY,List.set] <;> rfl) .nil) fun Y U=>plz (stw U aC 21 hH fun aU az _ =>?_)
 refine gz aH U (.assign rfl .nil) fun Y U=>rtd (iF (fn:=Tryz.f95) U az (i:=21) rfl rfl rfl rfl U51 rfl hH ?_)
 exact .inr ⟨fun h=>by unfold iQ at h;obtain⟨h1,h2,h3,h4,h5,h6,h7,h8,h9,ao,ap⟩:=h;first|omega|(have aq:=hpb.2 h9;simp_all),rfl,az.below⟩
end
section
def itD(x:Int×List Int):List D:=[.v (.int .i64 x.1),.ns .u8 x.2]
def wrD(x:Int×List (Int×List Int)):List D:=[.v (.int .i64 x.1),.l 2 (x.2.map itD)]
theorem iB{A:List (Int×List Int)}{k:Nat}{b:Int}{d:List Int}(h:A[k]? = some (b,d)):(A.map itD)[k]? = some [.v (.int .i64 b),.ns .u8 d]:=by simp [h,itD]
theorem iI{A:List (Int×List (Int×List Int))}{k:Nat}{b:Int}{d:List (Int×List Int)}(h:A[k]? = some (b,d)):(A.map wrD)[k]? = some [.v (.int .i64 b),.l 2 (d.map itD)]:=by simp [h,wrD]
def j3(es:List (Int×List Int)):Prop:=∀ e∈es,e.2.length≤140737488351232
def kK(ws:List (Int×List (Int×List Int))):Prop:=∀ e∈ws,e.2.length≤1000000∧j3 e.2
theorem jG{α:Type}{l:List α}{x:α}(h:l[k]? = some x):l.take (k+1)=l.take k++[x]:=by
 obtain⟨hk,e⟩:=List.getElem?_eq_some_iff.1 h
 rw[List.take_succ_eq_append_getElem hk,e]
theorem r8{S:Nat→Prop}{w:World}(h:w.ownsRow N e k v 0 []):RowOk N S w v e k []:=⟨[],by simpa using h,rfl,by simp,by simp,by simp⟩
theorem nr:(Tryz.prog.info? 59).map (fun i=>(i.zero,i.size,i.bytes))=some (some (.agg #[.int .i64 0,.slice none 0 0]),2,32):=by kernel_rfl
theorem r9(n:Nat)(w:World)(hn:n≤100000000) :
   Calls Tryz.prog 180 #[.slice none 0 0,.int .i64 n] w fun e w' => ∃ p c,e=.returned (.slice p 0 c)∧w'.ownsRow w.heap.size 59 2 (.slice p 0 c) 0 []∧Below w.heap.size w w':=by
 by_cases h0:n=0
 · subst h0
   go_enter Tryz.func180,Tryz.ntmps180
   go_wp2
   go_ret
   exact⟨_,_,rfl,World.ownsRow_nil _ _ _ _,Below.refl _ _⟩
 obtain⟨i0,hi,hz0,hz1,hz2⟩:=info_parts nr
 have hbn:n*i0.bytes≤140737488355328:=by rw[hz2];omega
 obtain⟨z,hz⟩:∃ z:Value,(.agg #[.int .i64 0,.slice none 0 0])=z:=⟨_,rfl⟩
 have hzc:z.cells.size=2:=by rw[← hz];rfl
 rw[hz] at hz0
 have hrz:∀ ty,(Builtin.append_ #[36,3] ty #[.slice none 0 0,.int .i64 (n:Int)]).run Tryz.prog w =
     .ok (.slice (some ⟨w.heap.size,0,none⟩) n (grownCap w n 0 59)) (w.drew.alloc (.cells (#[]++Builtin.zeroCells z.cells n++Builtin.zeroCells z.cells (grownCap w n 0 59 - n)) 59)):=fun ty=>by
   have h:=Lib.run_append_grow_zeros w 36 3 ty 59 i0 z .i64 .i64 U36 U3 hi hz0 none 0 0 [] (run_firstCells_none w.drew i0.size 0 0 0) n (by omega) (by omega) (by omega) (by omega) (by omega)
     (by rw[Nat.zero_add];exact growslice_fits (by omega) hbn)
   rw[Nat.zero_add] at h
   exact h
 have hG:=grownCap_ge w n 0 59
 have hM:=grownCap_le_maxLen w n 0 59 (by unfold maxLen;omega)
 generalize grownCap w n 0 59=G at hrz hG hM
 have hown:(w.drew.alloc (.cells (#[]++Builtin.zeroCells z.cells n++Builtin.zeroCells z.cells (G - n)) 59)).ownsRow w.heap.size 59 2 (.slice (some ⟨w.heap.size,0,none⟩) 0 G) 0 []:=by
   refine World.ownsRow_made w.drew _ G (Nat.le_refl _) hM ?_
   simp [size_zeroCells,hzc]
   omega
 have hbel:Below w.heap.size w (w.drew.alloc (.cells (#[]++Builtin.zeroCells z.cells n++Builtin.zeroCells z.cells (G - n)) 59)):=((Below.refl _ w).drew).alloc (Nat.le_refl _) _
 generalize (w.drew.alloc (.cells (#[]++Builtin.zeroCells z.cells n++Builtin.zeroCells z.cells (G - n)) 59))=W' at hrz hown hbel
 have HO:=Lib.hid hown
 have HB:=Lib.hid hbel
 clear hown hbel hi hz0 hz1 hz2 hz hzc
 unfold maxLen at hM
 go_enter Tryz.func180,Tryz.ntmps180
 go_wp2_with (at_builtin;refine Lib.wpList_append_run _ rfl _ _ _ _ rfl _ _ rfl rfl _ _ (hrz _) ?_)
 all_goals (go_ret;exact⟨_,_,rfl,HO.out,HB.out⟩)
theorem nt:(Tryz.prog.info? 103).map (fun i=>(i.zero,i.size,i.bytes))=some (some (.agg #[.int .i64 0,.slice none 0 0]),2,32):=by kernel_rfl
theorem nR(n:Nat)(w:World)(hn:n≤100000000) :
   Calls Tryz.prog 136 #[.slice none 0 0,.int .i64 n] w fun e w' => ∃ p c,e=.returned (.slice p 0 c)∧w'.ownsRow w.heap.size 103 2 (.slice p 0 c) 0 []∧Below w.heap.size w w':=by
 by_cases h0:n=0
 · subst h0
   go_enter Tryz.func136,Tryz.ntmps136
   go_wp2
   go_ret
   exact⟨_,_,rfl,World.ownsRow_nil _ _ _ _,Below.refl _ _⟩
 obtain⟨i0,hi,hz0,hz1,hz2⟩:=info_parts nt
 have hbn:n*i0.bytes≤140737488355328:=by rw[hz2];omega
 obtain⟨z,hz⟩:∃ z:Value,(.agg #[.int .i64 0,.slice none 0 0])=z:=⟨_,rfl⟩
 have hzc:z.cells.size=2:=by rw[← hz];rfl
 rw[hz] at hz0
 have hrz:∀ ty,(Builtin.append_ #[49,3] ty #[.slice none 0 0,.int .i64 (n:Int)]).run Tryz.prog w =
     .ok (.slice (some ⟨w.heap.size,0,none⟩) n (grownCap w n 0 103)) (w.drew.alloc (.cells (#[]++Builtin.zeroCells z.cells n++Builtin.zeroCells z.cells (grownCap w n 0 103 - n)) 103)):=fun ty=>by
   have h:=Lib.run_append_grow_zeros w 49 3 ty 103 i0 z .i64 .i64 U49 U3 hi hz0 none 0 0 [] (run_firstCells_none w.drew i0.size 0 0 0) n (by omega) (by omega) (by omega) (by omega) (by omega)
     (by rw[Nat.zero_add];exact growslice_fits (by omega) hbn)
   rw[Nat.zero_add] at h
   exact h
 have hG:=grownCap_ge w n 0 103
 have hM:=grownCap_le_maxLen w n 0 103 (by unfold maxLen;omega)
 generalize grownCap w n 0 103=G at hrz hG hM
 have hown:(w.drew.alloc (.cells (#[]++Builtin.zeroCells z.cells n++Builtin.zeroCells z.cells (G - n)) 103)).ownsRow w.heap.size 103 2 (.slice (some ⟨w.heap.size,0,none⟩) 0 G) 0 []:=by
   refine World.ownsRow_made w.drew _ G (Nat.le_refl _) hM ?_
   simp [size_zeroCells,hzc]
   omega
 have hbel:Below w.heap.size w (w.drew.alloc (.cells (#[]++Builtin.zeroCells z.cells n++Builtin.zeroCells z.cells (G - n)) 103)):=((Below.refl _ w).drew).alloc (Nat.le_refl _) _
 generalize (w.drew.alloc (.cells (#[]++Builtin.zeroCells z.cells n++Builtin.zeroCells z.cells (G - n)) 103))=W' at hrz hown hbel
 have HO:=Lib.hid hown
 have HB:=Lib.hid hbel
 clear hown hbel hi hz0 hz1 hz2 hz hzc
 unfold maxLen at hM
 go_enter Tryz.func136,Tryz.ntmps136
 go_wp2_with (at_builtin;refine Lib.wpList_append_run _ rfl _ _ _ _ rfl _ _ rfl rfl _ _ (hrz _) ?_)
 all_goals (go_ret;exact⟨_,_,rfl,HO.out,HB.out⟩)
theorem qm(d:List Int)(p0 c0)(w0:World)(h0:Rd (fun _=>True) w0 (.slice p0 d.length c0) (.ns .u8 d))(hd:d.length≤140737488351232) :
   Calls Tryz.prog 181 #[.slice p0 d.length c0] w0 fun e w' => ∃ p c,e=.returned (.slice p d.length c)∧Rd (New w0) w' (.slice p d.length c) (.ns .u8 d)∧Below w0.heap.size w0 w':=by
 refine i9 Tryz.func181 rfl Tryz.ntmps181 fun Y U =>?_
 have m0:=MemOk.start (fun _=>False) w0
 refine hC U (.assign rfl .nil) fun Y U=>zsr fun K0 hK0=>g9 U (.move rfl .nil) fun Y U=>plz<|qx U m0 2 rfl rfl (h0.now' m0 rfl).ns_out.nums U22 jU (by decide) (by omega) rfl fun p4 c4 Y w5 U m5=>gz hK0 U (.assign rfl .nil) fun Y U=>rt1 U ?_
 have m7:=m5.freezeN 2 rfl
 exact⟨_,_,rfl,m7.outF (i:=2) rfl,m7.below⟩
theorem l4(d:List Int)(p0 c0)(w0:World)(h0:Rd (fun _=>True) w0 (.slice p0 d.length c0) (.ns .i64 d))(hd:d.length≤1000000) :
   Calls Tryz.prog 100 #[.slice p0 d.length c0] w0 fun e w' => ∃ p c,e=.returned (.slice p d.length c)∧Rd (New w0) w' (.slice p d.length c) (.ns .i64 d)∧Below w0.heap.size w0 w':=by
 refine i9 Tryz.func100 rfl Tryz.ntmps100 fun Y U =>?_
 have m0:=MemOk.start (fun _=>False) w0
 refine hC U (.assign rfl .nil) fun Y U=>zsr fun K0 hK0=>g9 U (.move rfl .nil) fun Y U=>plz<|jr U m0 2 rfl rfl (h0.now' m0 rfl).ns_out.nums U48 ki (by decide) (by omega) rfl fun p4 c4 Y w5 U m5=>gz hK0 U (.assign rfl .nil) fun Y U=>rt1 U ?_
 have m7:=m5.freezeN 2 rfl
 exact⟨_,_,rfl,m7.outF (i:=2) rfl,m7.below⟩
theorem tO(b:Int)(d:List Int)(p0 c0)(w0:World)(h0:Rd (fun _=>True) w0 (.slice p0 d.length c0) (.ns .u8 d))(hd:d.length≤140737488351232) :
   Calls Tryz.prog 164 #[.agg #[.int .i64 b,.slice p0 d.length c0]] w0 fun e w' => ∃ p c,e=.returned (.agg #[.int .i64 b,.slice p d.length c])∧Rd (New w0) w' (.slice p d.length c) (.ns .u8 d)∧Below w0.heap.size w0 w':=by
 refine i9 Tryz.func164 rfl Tryz.ntmps164 fun Y U =>?_
 have m0:=MemOk.start (fun _=>False) w0
 refine zsr fun K0 hK0=>plz<|iu U m0 2 (cs:=[_,_]) rfl rfl rfl fun g1 Y w2 U m2 _ _=>plz<|hZ U m2 3 qJ rfl fun g3 Y w4 U m4 _ _=>znl<|hK0 _ _<|zsr fun K1 hK1=>g9 U (.fa 1 rfl U59<|.lb m4 2 U22 rfl rfl rfl .nil) fun Y U=>plz (ecl U Tryz.func181 rfl (qm d _ _ _ ((h0.now' m4 rfl).any) hd) ?_)
 rintro e w9 ⟨p9,c9,rfl,hd9,hb9⟩
 have ac:=m4.callF 4 rfl hb9 hd9
 refine⟨_,rfl,?_⟩;intro Y U
 refine g9 U (.fieldAddr (off:=1) rfl U59 rfl (s:=0) (by kernel_rfl) rfl .nil) fun Y U=>plz (st1 U ac 2 nZ fun ad ab _ =>?_)
 refine znl<|hK1 _ _<|zsr fun K2 hK2=>g9 U (.loadBR ab (i:=2) rfl rfl U59 rfl jA (by simp) (by dsimp only [List.drop,List.take] <;> rfl) .nil) fun Y U=>plz (stw U ab 3 jA fun ae aa _ =>?_)
 refine znl<|hK2 _ _<|rtd (kG (fn:=Tryz.f164) U aa (i:=3) rfl rfl rfl U59 rfl jA ?_)
 exact⟨_,_,rfl,aa.outF (i:=4) rfl,aa.below⟩
theorem sa(es:List (Int×List Int))(p0 c0 nn)(w0:World)(h0:Rd (fun _=>True) w0 (.slice p0 nn c0) (.l 2 (es.map itD)))(hl:es.length≤1000000)(hok:j3 es) :
   Calls Tryz.prog 163 #[.slice p0 nn c0,.func (.func 164) #[] #[]] w0 fun e w' => ∃ p c,e=.returned (.slice p (es.map itD).length c)∧Rd (New w0) w' (.slice p (es.map itD).length c) (.l 2 (es.map itD))∧Below w0.heap.size w0 w':=by
 obtain rfl:nn=es.length:=by obtain⟨pq,cq,hv,_⟩:=h0.l_shape;injection hv with _ e2 _;rw[List.length_map] at e2;exact e2
 refine iZ Tryz.func163 rfl Tryz.ntmps163 fun Y U =>?_
 have m0:=MemOk.start (fun _=>False) w0
 refine hC U (.assign rfl .nil) fun Y U=>zsr fun K0 hK0=>g9 U (.move rfl<|.len rfl U36 .nil) fun Y U=>plz (ecl U Tryz.func180 rfl (r9 _ _ (by omega)) ?_)
 rintro e w6 ⟨p6,c6,rfl,ho6,hb6⟩
 have m7:=m0.newR 3 hb6 (r8 ho6)
 refine⟨_,rfl,?_⟩;intro Y U
 refine gz hK0 U (.assign rfl .nil) fun Y U=>wsk fun K1 hK1=>hC U (.move rfl<|.len rfl U36<|.move rfl .nil) fun Y U=>wp_block<|wp_loop_ghost (fun g a w => ∃ (k:Nat) (p:Option Addr) (c:Nat),k≤es.length∧g=es.length - k∧Has 25 [(1,.func (.func 164) #[] #[]),(5,.slice p ((es.take k).map itD).length c),(11,.slice p0 es.length c0),(12,.int .i64 es.length),(13,.int .i64 k)] a∧MemOk (cn w0) w0 [(3,.row (.slice p ((es.take k).map itD).length c) 59 2 ((es.take k).map itD))] w) (es.length) ?_ ?_
 · exact⟨0,_,_,Nat.zero_le _,rfl,U.only [1,5,11,12,13],m7.only [3]⟩
 clear U m7
 rintro g Y aB ⟨k,p,c,hkl,hg,U,ae⟩
 refine hC U (.lss rfl rfl .nil) fun Y U=>wsk fun K2 hK2=>bc U 14 ?_ ?_
 ·
  intro ac U;try simp only [QQ,Qax] at ac
  have hk:k<es.length:=by omega
  obtain⟨⟨xb,xd⟩,hes⟩:∃ e,es[k]? = some e:=⟨_,List.getElem?_eq_getElem hk⟩
  have hed:=hok _ (List.mem_of_getElem? hes)
  dsimp only at hed
  refine wct U<|zss<|hK2 _ _<|wsk fun K3 hK3=>wp_block<|zsr fun K4 hK4 =>?_
  obtain⟨au,av,aw,ag,ax,ah,ad⟩:=h0.extA (k) (r:=[.v (.int .i64 xb),.ns .u8 xd]) (iB hes)
  revert U
  cases ag
  rcases ah with _|⟨aa,_|⟨ab,_|_⟩⟩
  obtain rfl:=aa.v_out
  clear aa
  obtain⟨aC,aD,ai,ay⟩:=ab.ns_shape;subst ai
  intro U
  refine g9 U (.c rfl (fun _ h_=>ii h_ rfl rfl U36 jA (k) rfl hk)<|.loadAt (ad ae rfl) rfl U59 rfl jA .nil) fun Y U=>plz<|hZ U ae 101 qJ rfl fun aE Y aF U az _ _=>plz (stw U az 101 jA fun aG aj _ =>?_)
  refine znl<|hK4 _ _<|wp_region_lit<|g9 U (.move rfl<|.move rfl<|.loadBR aj (i:=101) rfl rfl U59 rfl jA (by simp) (by dsimp only [List.drop,List.take] <;> rfl) .nil) fun Y U=>plz (kE U rfl Tryz.func164 rfl rfl rfl rfl (tO xb xd _ _ _ ((ab.now' aj rfl).any) hed) ?_)
  rintro e aH ⟨aI,aJ,rfl,ak,al⟩
  have ao:=aj.callF 102 rfl al ak
  refine⟨_,rfl,?_⟩;intro Y U
  refine plz (iN U ao 103 (mm:=2) rfl (.cons rfl rfl (.cons (.v _) (.cons (ao.rd (i:=102) rfl) .nil)) .nil) U36 si rfl rfl rfl rfl rfl fun aK Y aL U aA =>?_)
  have ap:=aA.freezeR 103 rfl
  refine plz<|iM U ap 3 rfl rfl rfl (ap.rd (i:=103) rfl) U36 si rfl rfl (by decide) (by simp;omega) rfl fun aM aN Y aO U aq=>gz hK3 U (.assign rfl .nil) fun Y U =>?_
  replace U:=U.oz [1,5,11,12,13]
  refine wp_region_lit<|g9 U (.inc (k+1)<|.move rfl .nil) fun Y U=>wpList_nil ?_
  show ∃ n',n'<_∧_
  have hE:(es.take k).map itD++[[D.v (.int .i64 xb),.ns .u8 xd]]=(es.take (k+1)).map itD:=by rw[jG hes,List.map_append];rfl
  rw[hE] at aq U
  exact⟨es.length - (k+1),by omega,k+1,_,_,by omega,rfl,U.only [1,5,11,12,13],aq.only [3]⟩
 intro ac U;try simp only [QQ,Qax] at ac
 revert U
 obtain rfl:k=es.length:=by omega
 intro U
 refine wcf U<|wp_exit<|hK1 _ _<|hC U (.move rfl<|.assign rfl .nil) fun Y U=>rt1 U ?_
 rw[List.take_length] at *
 have ar:=ae.freezeR 3 rfl
 exact⟨_,_,rfl,ar.outF (i:=3) rfl,ar.below⟩
theorem nP(es:List (Int×List Int))(p0 c0 nn)(w0:World)(h0:Rd (fun _=>True) w0 (.slice p0 nn c0) (.l 2 (es.map itD)))(hl:es.length≤1000000)(hok:j3 es) :
   Calls Tryz.prog 137 #[.slice p0 nn c0] w0 fun e w' => ∃ p c,e=.returned (.slice p (es.map itD).length c)∧Rd (New w0) w' (.slice p (es.map itD).length c) (.l 2 (es.map itD))∧Below w0.heap.size w0 w':=by
 refine i9 Tryz.func137 rfl Tryz.ntmps137 fun Y U =>?_
 have m0:=MemOk.start (fun _=>False) w0
 refine hC U (.assign rfl .nil) fun Y U=>zsr fun K0 hK0=>g9 U (.move rfl .nil) fun Y U=>plz (ecl U Tryz.func163 rfl (sa es _ _ _ _ ((h0.now' m0 rfl).any) hl hok) ?_)
 rintro e w4 ⟨p4,c4,rfl,hd4,hb4⟩
 have m5:=m0.callF 3 rfl hb4 hd4
 refine⟨_,rfl,?_⟩;intro Y U
 refine gz hK0 U (.assign rfl .nil) fun Y U=>rt1 U ?_
 exact⟨_,_,rfl,m5.outF (i:=3) rfl,m5.below⟩
theorem nS(sq)(es:List (Int×List Int))(p0 c0 nn)(w0:World)(h0:Rd (fun _=>True) w0 (.slice p0 nn c0) (.l 2 (es.map itD)))(hl:es.length≤1000000)(hok:j3 es) :
   Calls Tryz.prog 102 #[.agg #[.int .i64 sq,.slice p0 nn c0]] w0 fun e w' => ∃ p c,e=.returned (.agg #[.int .i64 sq,.slice p (es.map itD).length c])∧Rd (New w0) w' (.slice p (es.map itD).length c) (.l 2 (es.map itD))∧Below w0.heap.size w0 w':=by
 refine i9 Tryz.func102 rfl Tryz.ntmps102 fun Y U =>?_
 have m0:=MemOk.start (fun _=>False) w0
 refine zsr fun K0 hK0=>plz<|iu U m0 3 (cs:=[_,_]) rfl rfl rfl fun g1 Y w2 U m2 _ _=>plz<|hZ U m2 4 qr rfl fun g3 Y w4 U m4 _ _=>znl<|hK0 _ _<|zsr fun K1 hK1=>g9 U (.fa 1 rfl j1<|.lb m4 3 U36 rfl rfl rfl .nil) fun Y U=>plz (ecl U Tryz.func137 rfl (nP es _ _ _ _ ((h0.now' m4 rfl).any) hl hok) ?_)
 rintro e w9 ⟨p9,c9,rfl,hd9,hb9⟩
 have ac:=m4.callF 5 rfl hb9 hd9
 refine⟨_,rfl,?_⟩;intro Y U
 refine g9 U (.fieldAddr (off:=1) rfl j1 rfl (s:=0) (by kernel_rfl) rfl .nil) fun Y U=>plz (st1 U ac 3 sI fun ad ab _ =>?_)
 refine znl<|hK1 _ _<|zsr fun K2 hK2=>g9 U (.loadBR ab (i:=3) rfl rfl j1 rfl jR (by simp) (by dsimp only [List.drop,List.take] <;> rfl) .nil) fun Y U=>plz (stw U ab 4 jR fun ae aa _ =>?_)
 refine znl<|hK2 _ _<|rtd (kG (fn:=Tryz.f102) U aa (i:=4) rfl rfl rfl j1 rfl jR ?_)
 exact⟨_,_,rfl,aa.outF (i:=5) rfl,aa.below⟩
theorem sd(es:List (Int×List (Int×List Int)))(p0 c0 nn)(w0:World)(h0:Rd (fun _=>True) w0 (.slice p0 nn c0) (.l 2 (es.map wrD)))(hl:es.length≤1000000)(hok:kK es) :
   Calls Tryz.prog 101 #[.slice p0 nn c0,.func (.func 102) #[] #[]] w0 fun e w' => ∃ p c,e=.returned (.slice p (es.map wrD).length c)∧Rd (New w0) w' (.slice p (es.map wrD).length c) (.l 2 (es.map wrD))∧Below w0.heap.size w0 w':=by
 obtain rfl:nn=es.length:=by obtain⟨pq,cq,hv,_⟩:=h0.l_shape;injection hv with _ e2 _;rw[List.length_map] at e2;exact e2
 refine iZ Tryz.func101 rfl Tryz.ntmps101 fun Y U =>?_
 have m0:=MemOk.start (fun _=>False) w0
 refine hC U (.assign rfl .nil) fun Y U=>zsr fun K0 hK0=>g9 U (.move rfl<|.len rfl U49 .nil) fun Y U=>plz (ecl U Tryz.func136 rfl (nR _ _ (by omega)) ?_)
 rintro e w6 ⟨p6,c6,rfl,ho6,hb6⟩
 have m7:=m0.newR 3 hb6 (r8 ho6)
 refine⟨_,rfl,?_⟩;intro Y U
 refine gz hK0 U (.assign rfl .nil) fun Y U=>wsk fun K1 hK1=>hC U (.move rfl<|.len rfl U49<|.move rfl .nil) fun Y U=>wp_block<|wp_loop_ghost (fun g a w => ∃ (k:Nat) (p:Option Addr) (c:Nat),k≤es.length∧g=es.length - k∧Has 25 [(1,.func (.func 102) #[] #[]),(5,.slice p ((es.take k).map wrD).length c),(11,.slice p0 es.length c0),(12,.int .i64 es.length),(13,.int .i64 k)] a∧MemOk (cn w0) w0 [(3,.row (.slice p ((es.take k).map wrD).length c) 103 2 ((es.take k).map wrD))] w) (es.length) ?_ ?_
 · exact⟨0,_,_,Nat.zero_le _,rfl,U.only [1,5,11,12,13],m7.only [3]⟩
 clear U m7
 rintro g Y aB ⟨k,p,c,hkl,hg,U,ae⟩
 refine hC U (.lss rfl rfl .nil) fun Y U=>wsk fun K2 hK2=>bc U 14 ?_ ?_
 ·
  intro ac U;try simp only [QQ,Qax] at ac
  have hk:k<es.length:=by omega
  obtain⟨⟨xs,xl⟩,hes⟩:∃ e,es[k]? = some e:=⟨_,List.getElem?_eq_getElem hk⟩
  have hed:=hok _ (List.mem_of_getElem? hes)
  dsimp only at hed
  refine wct U<|zss<|hK2 _ _<|wsk fun K3 hK3=>wp_block<|zsr fun K4 hK4 =>?_
  obtain⟨au,av,aw,ag,ax,ah,ad⟩:=h0.extA (k) (r:=[.v (.int .i64 xs),.l 2 (xl.map itD)]) (iI hes)
  revert U
  cases ag
  rcases ah with _|⟨aa,_|⟨ab,_|_⟩⟩
  obtain rfl:=aa.v_out
  clear aa
  obtain⟨aC,aD,ai,ay⟩:=ab.l_shape;subst ai
  intro U
  refine g9 U (.c rfl (fun _ h_=>ii h_ rfl rfl U49 jR (k) rfl hk)<|.loadAt (ad ae rfl) rfl j1 rfl jR .nil) fun Y U=>plz<|hZ U ae 101 qr rfl fun aE Y aF U az _ _=>plz (stw U az 101 jR fun aG aj _ =>?_)
  refine znl<|hK4 _ _<|wp_region_lit<|g9 U (.move rfl<|.move rfl<|.loadBR aj (i:=101) rfl rfl j1 rfl jR (by simp) (by dsimp only [List.drop,List.take] <;> rfl) .nil) fun Y U=>plz (kE U rfl Tryz.func102 rfl rfl rfl rfl (nS xs xl _ _ _ _ ((ab.now' aj rfl).any) hed.1 hed.2) ?_)
  rintro e aH ⟨aI,aJ,rfl,ak,al⟩
  have ao:=aj.callF 102 rfl al ak
  refine⟨_,rfl,?_⟩;intro Y U
  refine plz (iN U ao 103 (mm:=2) rfl (.cons rfl rfl (.cons (.v _) (.cons (ao.rd (i:=102) rfl) .nil)) .nil) U49 pV rfl rfl rfl rfl rfl fun aK Y aL U aA =>?_)
  have ap:=aA.freezeR 103 rfl
  refine plz<|iM U ap 3 rfl rfl rfl (ap.rd (i:=103) rfl) U49 pV rfl rfl (by decide) (by simp;omega) rfl fun aM aN Y aO U aq=>gz hK3 U (.assign rfl .nil) fun Y U =>?_
  replace U:=U.oz [1,5,11,12,13]
  refine wp_region_lit<|g9 U (.inc (k+1)<|.move rfl .nil) fun Y U=>wpList_nil ?_
  show ∃ n',n'<_∧_
  have hE:(es.take k).map wrD++[[D.v (.int .i64 xs),.l 2 (xl.map itD)]]=(es.take (k+1)).map wrD:=by rw[jG hes,List.map_append];rfl
  rw[hE] at aq U
  exact⟨es.length - (k+1),by omega,k+1,_,_,by omega,rfl,U.only [1,5,11,12,13],aq.only [3]⟩
 intro ac U;try simp only [QQ,Qax] at ac
 revert U
 obtain rfl:k=es.length:=by omega
 intro U
 refine wcf U<|wp_exit<|hK1 _ _<|hC U (.move rfl<|.assign rfl .nil) fun Y U=>rt1 U ?_
 rw[List.take_length] at *
 have ar:=ae.freezeR 3 rfl
 exact⟨_,_,rfl,ar.outF (i:=3) rfl,ar.below⟩
theorem kL(vo bl sz pe to ne fl:Int)(hi)(place pins:List Int)(ws:List (Int×List (Int×List Int)))(pp pn pw:Option Addr)(cp cn nw cw:Nat)(w0:World)(h0:Rd (fun _=>True) w0 (.slice pp place.length cp) (.ns .i64 place))(h1:Rd (fun _=>True) w0 (.slice pn pins.length cn) (.ns .i64 pins))(h2:Rd (fun _=>True) w0 (.slice pw nw cw) (.l 2 (ws.map wrD)))(hn:place.length≤1000000)(hp:pins.length≤1000000)(hl:ws.length≤1000000)(hok:kK ws) :
   Calls Tryz.prog 52 #[.agg #[.int .i64 vo,.int .i64 bl,.int .i64 sz,.int .i64 pe,.slice pp place.length cp,.int .i64 to,.int .i64 ne,.bool hi,.int .i64 fl,.slice pn pins.length cn,.slice pw nw cw]] w0 fun e w' => ∃ p1 c1 p2 c2 p3 c3,e=.returned (.agg #[.int .i64 vo,.int .i64 bl,.int .i64 sz,.int .i64 pe,.slice p1 place.length c1,.int .i64 to,.int .i64 ne,.bool hi,.int .i64 fl,.slice p2 pins.length c2,.slice p3 (ws.map wrD).length c3])∧Rd (New w0) w' (.slice p1 place.length c1) (.ns .i64 place)∧Rd (New w0) w' (.slice p2 pins.length c2) (.ns .i64 pins)∧Rd (New w0) w' (.slice p3 (ws.map wrD).length c3) (.l 2 (ws.map wrD))∧Below w0.heap.size w0 w':=by
 refine i9 Tryz.func52 rfl Tryz.ntmps52 fun Y U =>?_
 have m0:=MemOk.start (fun _=>False) w0
 refine zsr fun K0 hK0=>plz<|iu U m0 20 (cs:=[_,_,_,_,_,_,_,_,_,_,_]) rfl rfl rfl fun g1 Y w2 U m2 _ _=>plz<|hZ U m2 21 iA rfl fun g3 Y w4 U m4 _ _=>znl<|hK0 _ _<|wsk fun K1 hK1 =>?_
 have m5:=m4.oz [20,21]
 refine region_p 10 (B:=[(20,_),(21,_)]) (m5.to i2l) m5 (by kernel_rfl) (fun w6 hP6 m6 =>?_);clear m5
 refine goR hP6 [0,1,3,4,6,7] [1,4,7] 6 0 219 U (m6.to i2l) (.fa 4 rfl U51<|.lb hh 20 U35 rfl rfl rfl<|.fa 9 rfl U51<|.lb hh 20 U48 rfl rfl rfl<|.fa 10 rfl U51<|.lb hh 20 U49 rfl rfl rfl .nil) fun Y U=>so 2 ?_
 refine ecl U Tryz.func99 rfl (kz place _ _ _ ((h0.now' m6 rfl).any) hn) ?_
 rintro e aq ⟨ar,au,rfl,ac,ad⟩
 have ab:=m6.callF 22 rfl ad ac
 refine⟨_,rfl,?_⟩;intro Y U
 refine⟨ab.to i2l,?_⟩
 refine goA hP6 [9] 1 223 735 U (ab.to i2l) (.fa 4 rfl U51 .nil) fun Y U=>so 5 ?_
 refine ecl U Tryz.func100 rfl (l4 pins _ _ _ ((h1.now' ab rfl).any) hp) ?_
 rintro e av ⟨aw,ax,rfl,ae,ag⟩
 have ah:=ab.callF 23 rfl ag ae
 refine⟨_,rfl,?_⟩;intro Y U
 refine⟨ah.to i2l,?_⟩
 refine so 8 ?_
 refine ecl U Tryz.func101 rfl (sd ws _ _ _ _ ((h2.now' ah rfl).any) hl hok) ?_
 rintro e ay ⟨az,aA,rfl,ai,aj⟩
 have ak:=ah.callF 24 rfl aj ai
 refine⟨_,rfl,?_⟩;intro Y U
 refine⟨ak.to i2l,?_⟩
 refine se 10 ?_
 refine st1 U ak 20 n0 fun aB ao _ =>?_
 refine goB hP6 [11] 1 2047 4095 U (.fa 9 rfl U51 .nil) fun Y U=>se 12 ?_
 refine st1 U ao 20 lq fun aC ap _ =>?_
 refine goB hP6 [13] 1 8191 16383 U (.fa 10 rfl U51 .nil) fun Y U=>se 14 ?_
 refine st1 U ap 20 n5 fun aD al _ =>?_
 refine wad<|hK1 _ _ ?_
 replace U:=U.oz [1,2]
 refine zsr fun K2 hK2=>g9 U (.loadBR al (i:=20) rfl rfl U51 rfl hH (by simp) (by dsimp only [List.drop,List.take] <;> rfl) .nil) fun Y U=>plz (stw U al 21 hH fun aE aa _ =>?_)
 refine znl<|hK2 _ _<|rtd (kG (fn:=Tryz.f52) U aa (i:=21) rfl rfl rfl U51 rfl hH ?_)
 exact⟨_,_,_,_,_,_,rfl,aa.outF (i:=22) rfl,aa.outF (i:=23) rfl,aa.outF (i:=24) rfl,aa.below⟩
end
end Go.Proofs.YtkehgingagggaaaGreat.K
