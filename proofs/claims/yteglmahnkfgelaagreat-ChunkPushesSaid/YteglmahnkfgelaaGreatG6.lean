/- General laws of walks. -/
import Derived.Test.YteglmahnkfgelaaGreatG5
import Derived.Test.YteglmahnkfgelaaGreatG4
import Derived.Lib.AppendZerosOnto
import Derived.Test.YteglmahnkfgelaaGreatG1
namespace Go.Proofs.YteglmahnkfgelaaGreat.K
open Go.ChangeShapes Go.WideShapes Go.ChangeAt Go.RowKit
set_option linter.unusedVariables false
set_option linter.unusedSimpArgs false
set_option maxRecDepth 100000
set_option maxHeartbeats 4000000
set_option autoImplicit true
set_option relaxedAutoImplicit true
section
def gdB(ops:Array Oper)(n:Nat)(T:List (Nat×Value)):Option (Nat×Bool)→Bool
 | none=>true
 | some (j,b)=>match (ops[j]?).bind (·.dst) with
   | some t=>Nat.blt t n && match lk T t with
     | some (.bool x)=>x == b
     | _=>false
   | none=>false
theorem pA{ops:Array Oper}{n:Nat}{T:List (Nat×Value)}{a:Act}(ha:Has n T a){o:Oper}(h:gdB ops n T o.guard=true):Region.wanted o (Go.yielded ops a.tmps)=true:=by
 unfold gdB at h
 split at h
 · next e=>simp [Region.wanted,e]
 next j b e =>
 split at h
 · next t hj =>
   rw[Bool.and_eq_true] at h
   split at h
   · next x hb =>
     obtain rfl:x=b:=by simpa using h.2
     simp [Region.wanted,e,ha.yielded hj hb h.1]
   cases h.2
 cases h
inductive Cd (P:Program) (n:Nat) (ops:Array Oper) (S:World→Prop):List (Oper×Bool)→List (Nat×Value)→List (Nat×Value)→Prop
 | nil {T:List (Nat×Value)}:Cd P n ops S [] T T
 | c {d:Tmp} {op:Op} {v:Value} {L:List (Oper×Bool)} {T T':List (Nat×Value)} {tt:TypeId} {pos:String} {af:Array Edge} {gd:Option (Nat×Bool)} (hy:∀ W,S W→∀ a,Has n T a→Yl P a W ⟨some d,op,tt,pos,af,gd⟩ v) (tl:Cd P n ops S L ((d,v) :: T) T') (hg:gdB ops n T gd=true:=by rfl) (ht:Nat.blt d n=true:=by rfl):Cd P n ops S ((⟨some d,op,tt,pos,af,gd⟩,true) :: L) T T'
 | p {d:Tmp} {op:Op} {v:Value} {L:List (Oper×Bool)} {T T':List (Nat×Value)} {tt:TypeId} {pos:String} {af:Array Edge} {gd:Option (Nat×Bool)} (hy:∀ W,∀ a,Has n T a→Yl P a W ⟨some d,op,tt,pos,af,gd⟩ v) (tl:Cd P n ops S L ((d,v) :: T) T') (hg:gdB ops n T gd=true:=by rfl) (ht:Nat.blt d n=true:=by rfl):Cd P n ops S ((⟨some d,op,tt,pos,af,gd⟩,false) :: L) T T'
 | s {d:Tmp} {op:Op} {L:List (Oper×Bool)} {T T':List (Nat×Value)} {tt:TypeId} {pos:String} {af:Array Edge} {j t:Nat} {b:Bool} (tl:Cd P n ops S L ((d,undef) :: T) T') (hj:(ops[j]?).bind (·.dst)=some t:=by rfl) (hb:lk T t=some (.bool !b):=by rfl) (ht2:Nat.blt t n=true:=by rfl) (ht:Nat.blt d n=true:=by rfl):Cd P n ops S ((⟨some d,op,tt,pos,af,some (j,b)⟩,false) :: L) T T'
 | u {d:Tmp} {op:Op} {L:List (Oper×Bool)} {T T':List (Nat×Value)} {tt:TypeId} {pos:String} {af:Array Edge} {j t:Nat} {b:Bool} (tl:Cd P n ops S L ((d,undef) :: T) T') (hj:(ops[j]?).bind (·.dst)=some t:=by rfl) (hb:lk T t=some undef:=by rfl) (ht2:Nat.blt t n=true:=by rfl) (ht:Nat.blt d n=true:=by rfl):Cd P n ops S ((⟨some d,op,tt,pos,af,some (j,b)⟩,false) :: L) T T'
def pS(ops:Array Oper)(rs:List Nat):List Nat→List (Oper×Bool)
 | [] => []
 | i :: is=>match ops[i]? with
   | some o=>(o,rs.contains i) :: pS ops rs is
   | none=>pS ops rs is
def lst(s m:Nat):Array Bool:=((List.range s).map fun i=>m.testBit i).toArray
theorem nR(s m:Nat):(lst s m).size=s:=by simp [lst]
theorem o5(s m i:Nat)(d:Bool):(lst s m).getD i d=if i<s then m.testBit i else d:=by
 unfold Array.getD
 by_cases h:i<s
 · rw[dif_pos (show i<(lst s m).size by rw[nR];exact h),if_pos h];simp [lst]
 rw[dif_neg (show ¬ i<(lst s m).size by rw[nR];exact h),if_neg h]
theorem uj(s m i:Nat):(lst s m).setIfInBounds i true=lst s (m ||| (1 <<< i)):=by
 apply Array.ext
 · simp [nR]
 intro k h1 h2
 rw[Array.getElem_setIfInBounds (by rw[nR];simpa [nR] using h1)]
 have hk:k<s:=by rw[nR] at h2;exact h2
 by_cases hik:i=k
 · subst hik;simp [lst,Nat.testBit_or,Nat.one_shiftLeft,Nat.testBit_two_pow_self]
 rw[if_neg hik];simp [lst,Nat.testBit_or,Nat.one_shiftLeft,Nat.testBit_two_pow_of_ne hik]
def qT(md:Region.Mode)(ops:Array Oper):Bool:=(List.range ops.size).all fun i=>match ops[i]? with
 | none=>true
 | some oi=>(List.range ops.size).all fun j=>j == i || match ops[j]? with
   | none=>true
   | some oj=>oj.after.any (fun e=>Region.binds md e && e.on == i) || oi.after.any (fun e=>Region.binds md e && e.on == j) || oi.apart ops oj
def rdM(md:Region.Mode)(ops:Array Oper)(e:Nat)(rs:List Nat):Nat→List Nat→Bool
 | _,[]=>true
 | m,i :: is=>(match ops[i]? with
   | none=>false
   | some o => !(m.testBit i) && o.after.all fun ed => !Region.binds md ed || (m.testBit ed.on && Nat.blt ed.on ops.size)) && Nat.blt i ops.size && decide (i≠e) && (!(rs.contains i) || (decide (ops.size≤e) || rM md ops e i)) && rdM md ops e rs (m ||| (1 <<< i)) is
def uk:Nat→List Nat→Nat
 | m,[]=>m
 | m,i :: is=>uk (m ||| (1 <<< i)) is
theorem vJ{md:Region.Mode}{ops:Array Oper}{m i:Nat}{o:Oper}(ho:ops[i]? = some o)(hn:m.testBit i=false)(ha:∀ ed∈o.after,Region.binds md ed=true→m.testBit ed.on=true∧ed.on<ops.size):i∈Region.ready md ops (lst ops.size m):=by
 have hi':i<ops.size:=(Array.getElem?_eq_some_iff.1 ho).1
 refine mem_ready.2 ⟨by rw[o5,if_pos hi',hn],o,ho,fun ed hed hb =>?_⟩
 rw[o5,if_pos (ha ed hed hb).2,(ha ed hed hb).1]
theorem ul{md:Region.Mode}{ops:Array Oper}{m i:Nat}{o:Oper}(hp:qT md ops=true)(ho:ops[i]? = some o)(ha:∀ ed∈o.after,Region.binds md ed=true→m.testBit ed.on=true∧ed.on<ops.size):Region.free md ops (lst ops.size m) i=true:=by
 simp only [qT,List.all_eq_true,List.mem_range] at hp
 have hi:=hp i (Array.getElem?_eq_some_iff.1 ho).1
 simp only [ho,List.all_eq_true,List.mem_range] at hi
 simp only [Region.free,ho,List.all_eq_true,List.mem_range]
 intro j hj
 have hij:=hi j hj
 rw[o5,if_pos hj]
 rw[Bool.or_eq_true] at hij
 rcases hij with h1|h1
 · rw[h1];simp
 cases hoj:ops[j]? with
 | none=>simp
 | some oj =>
   simp only [hoj,Bool.or_eq_true] at h1
   rcases h1 with (h3|h3)|h3
   · simp [h3]
   · obtain⟨ed,hed,h4⟩:=Array.any_eq_true'.1 h3
     rw[Bool.and_eq_true,beq_iff_eq] at h4
     have h5:=ha ed hed h4.1
     rw[h4.2] at h5
     simp [h5.1]
   simp [h3]
theorem vK{md:Region.Mode}{ops:Array Oper}{m:Nat}{o:Oper}(h:(o.after.all fun ed => !Region.binds md ed || (m.testBit ed.on && Nat.blt ed.on ops.size))=true):∀ ed∈o.after,Region.binds md ed=true→m.testBit ed.on=true∧ed.on<ops.size:=fun ed hed hb=>by
 have h5:=Array.all_eq_true_iff_forall_mem.1 h ed hed
 rw[hb] at h5
 simpa [Nat.blt_eq] using h5
section
variable {P:Program} {n:Nat} {ops:Array Oper} {Q:Exit→Act→World→Prop} {md:Region.Mode} {e fuel:Nat} {S S':World→Prop}
theorem tr{L:Array Bool}(h:Closed md ops L):nc md ops L=true:=by
 unfold nc
 rw[Bool.and_eq_true,decide_eq_true_eq,List.all_eq_true]
 refine⟨h.1,fun j _ =>?_⟩
 cases hl:L.getD j false with
 | false=>rfl
 | true =>
   cases ho:ops[j]? with
   | none=>rfl
   | some oj =>
     simp only [Bool.not_true,Bool.false_or]
     rw[Array.all_eq_true_iff_forall_mem]
     intro ed hed
     cases hb:Region.binds md ed with
     | false=>rfl
     | true=>simpa using h.2 j oj ho hl ed hed hb
theorem hh:∀ W,S W→S W:=fun _ h=>h
theorem sG(rs:List Nat)(hp:qT md ops=true)(hs:Region.noSelect ops=true)(hQ:∀ c a d v w,Q (.panic c) (a.put (some d) v) w→Q (.panic c) a w):∀ (is:List Nat) {k m:Nat} {T T':List (Nat×Value)} {a:Act} {w:World},is.length=k→Has n T a→(S w∨(Nat.testBit m e=true∧e<ops.size∧rs=[]))→(rs=[]∨nc md ops (lst ops.size m)=true)→Cd P n ops S (pS ops rs is) T T'→rdM md ops e rs m is=true→(∀ a',Has n T' a'→lp P md ops Q e S fuel (lst ops.size (uk m is)) a' w)→lp P md ops Q e S (fuel+k) (lst ops.size m) a w
 | [],k,m,T,T',a,w,hk,ha,hS,hcl,hc,_,h=>by
   subst hk
   cases hc
   exact h a ha
 | i :: is,k,m,T,T',a,w,hk,ha,hS,hcl,hc,hr,h=>by
   subst hk
   simp only [rdM,Bool.and_eq_true] at hr
   obtain⟨⟨⟨⟨h1,h2⟩,h4⟩,h6⟩,h7⟩:=hr
   cases ho:ops[i]? with
   | none=>rw[ho] at h1;cases h1
   | some o =>
     rw[ho] at h1
     simp only [Bool.and_eq_true,Bool.not_eq_true'] at h1
     have haf:=vK h1.2
     have hop:pS ops rs (i :: is)=(o,rs.contains i) :: pS ops rs is:=by simp only [pS,ho]
     rw[hop] at hc
     have h4':i≠e:=of_decide_eq_true h4
     have hrd:=vJ ho h1.1 haf
     have hrb:(Region.ready md ops (lst ops.size m)).contains i=true:=List.contains_iff_mem.2 hrd
     have hf:=ul hp ho haf
     have hS1:(lst ops.size m).getD e false=false→S w:=fun h=>hS.elim (fun h=>h) (fun h9=>by rw[o5,if_pos h9.2.1,h9.1] at h;cases h)
     have hS2:S w∨(Nat.testBit (m ||| (1 <<< i)) e=true∧e<ops.size∧rs=[]):=hS.imp (fun h=>h) (fun h9=>⟨by rw[Nat.testBit_or,h9.1];rfl,h9.2⟩)
     have hcl2:rs=[]∨nc md ops (lst ops.size (m ||| (1 <<< i)))=true:=hcl.imp (fun h=>h) (fun h=>by
       have:=(nG h).set hrd
       rw[uj] at this
       exact tr this)
     have go {d:Tmp} {v:Value} (ha':Has n ((d,v) :: T) (a.put (some d) v)) (tl:Cd P n ops S (pS ops rs is) ((d,v) :: T) T'):lp P md ops Q e S (fuel+is.length) ((lst ops.size m).setIfInBounds i true) (a.put (some d) v) w:=by
       rw[uj]
       exact sG rs hp hs hQ is rfl ha' hS2 hcl2 tl h7 h
     generalize hb:rs.contains i=b at hc
     cases hc with
     | c hy tl hg ht =>
       rw[hb] at h6
       simp only [Bool.not_true,Bool.false_or,Bool.or_eq_true] at h6
       have hne:rs≠[]:=fun h=>by rw[h] at hb;cases hb
       have hS0:S w:=hS.elim (fun h=>h) (fun h9=>absurd h9.2.2 hne)
       have hc0:=hcl.resolve_left hne
       rcases h6 with h9|h9
       · exact tp i (some _) hS0 ho rfl hs hf hrb hc0 (by rw[h9,h4];rfl) (fun c a w=>hQ c a _ _ w) (pA ha hg) (fun W hW=>hy W hW a ha) (go (ha.put ht _) tl)
       exact rN i (some _) hS0 ho rfl hs hf hrb hc0 (by rw[h9,h4];rfl) (fun c a w=>hQ c a _ _ w) (pA ha hg) (fun W hW=>hy W hW a ha) (go (ha.put ht _) tl)
     | p hy tl hg ht=>exact um i (some _) hS1 ho rfl hs hf hrb h4 (fun c a w=>hQ c a _ _ w) (pA ha hg) (fun W=>hy W a ha) (go (ha.put ht _) tl)
     | s tl hj hb ht2 ht=>exact pW i (some _) hS1 ho rfl hs hf hrb h4 (fun c a w=>hQ c a _ _ w) (by simp [Region.wanted,ha.yielded hj hb ht2]) (go (ha.put ht _) tl)
     | u tl hj hb ht2 ht=>exact pW i (some _) hS1 ho rfl hs hf hrb h4 (fun c a w=>hQ c a _ _ w) (by simp [Region.wanted,ha.unyielded hj hb ht2]) (go (ha.put ht _) tl)
theorem region_p {P:Program} {a:Act} {w w0:World} {X:Cx} {M B:Mm} {ops:Array Oper} {Q:Exit→Act→World→Prop} (e:Nat) (mB:MemOk X w0 B w) (m:MemOk X w0 M w) {id:Nat} (hm:P.follows .mixedOrders=true)
   (h:∀ w',qT .any ops=true→MemOk X w0 M w'→lp P .any ops Q e (MemOk X w0 B) ops.size (Array.replicate ops.size false) a w') (hp:qT .any ops=true:=by kernel_rfl):(Code.region id ops true).wp P Q a w:=vG e mB m hm (fun w' _ m'=>h w' hp m')
theorem goR(hp:qT md ops=true)(is rs:List Nat)(k m m':Nat){T T':List (Nat×Value)}{a:Act}{w:World}{listed:Array Bool}(ha:Has n T a)(hS:S w)(hc:Cd P n ops S (pS ops rs is) T T')(h:∀ a',Has n T' a'→lp P md ops Q e S fuel (lst ops.size m') a' w)(hl:listed=lst ops.size m:=by kernel_rfl)(hm:m'=uk m is:=by kernel_rfl)(hk:is.length=k:=by rfl)(hcl:nc md ops (lst ops.size m)=true:=by kernel_rfl)(hs:Region.noSelect ops=true:=by kernel_rfl)(hr:rdM md ops e rs m is=true:=by kernel_rfl)(hQ:∀ c a d v w,Q (.panic c) (a.put (some d) v) w→Q (.panic c) a w:=by exact fun _ _ _ _ _ h=>h):lp P md ops Q e S (fuel+k) listed a w:=by
 subst hl;subst hm
 exact sG rs hp hs hQ is hk ha (.inl hS) (.inr hcl) hc hr h
theorem goA(hp:qT md ops=true)(is:List Nat)(k m m':Nat){T T':List (Nat×Value)}{a:Act}{w:World}{listed:Array Bool}(ha:Has n T a)(hS:S w)(hc:Cd P n ops S (pS ops [] is) T T')(h:∀ a',Has n T' a'→lp P md ops Q e S fuel (lst ops.size m') a' w)(hl:listed=lst ops.size m:=by kernel_rfl)(hm:m'=uk m is:=by kernel_rfl)(hk:is.length=k:=by rfl)(hs:Region.noSelect ops=true:=by kernel_rfl)(hr:rdM md ops e [] m is=true:=by kernel_rfl)(hQ:∀ c a d v w,Q (.panic c) (a.put (some d) v) w→Q (.panic c) a w:=by exact fun _ _ _ _ _ h=>h):lp P md ops Q e S (fuel+k) listed a w:=by
 subst hl;subst hm
 exact sG [] hp hs hQ is hk ha (.inl hS) (.inl rfl) hc hr h
theorem goB(hp:qT md ops=true)(is:List Nat)(k m m':Nat){T T':List (Nat×Value)}{a:Act}{w:World}{listed:Array Bool}(ha:Has n T a)(hc:Cd P n ops S (pS ops [] is) T T')(h:∀ a',Has n T' a'→lp P md ops Q e S fuel (lst ops.size m') a' w)(hl:listed=lst ops.size m:=by kernel_rfl)(hm:m'=uk m is:=by kernel_rfl)(hk:is.length=k:=by rfl)(hb:(Nat.testBit m e && Nat.blt e ops.size)=true:=by kernel_rfl)(hs:Region.noSelect ops=true:=by kernel_rfl)(hr:rdM md ops e [] m is=true:=by kernel_rfl)(hQ:∀ c a d v w,Q (.panic c) (a.put (some d) v) w→Q (.panic c) a w:=by exact fun _ _ _ _ _ h=>h):lp P md ops Q e S (fuel+k) listed a w:=by
 subst hl;subst hm
 rw[Bool.and_eq_true] at hb
 exact sG [] hp hs hQ is hk ha (.inr ⟨hb.1,by simpa [Nat.blt_eq] using hb.2,rfl⟩) (.inl rfl) hc hr h
end
/-! short -/
section
variable {P:Program} {n:Nat} {ops:Array Oper} {S:World→Prop} {L:List (Oper×Bool)} {T T':List (Nat×Value)} {w0:World} {X:Cx} {M:Mm} {dd:Tmp} {tt:TypeId} {pos:String} {af:Array Edge} {gd:Option (Nat×Bool)} {x y z:Operand} {k:IntKind} {p q r:Int} {t t2:TypeId}
theorem Cd.move{x:Operand}{v:Value}(hx:evT T x=some v)(tl:Cd P n ops S L ((dd,v) :: T) T')(hg:gdB ops n T gd=true:=by rfl)(ht:Nat.blt dd n=true:=by rfl):Cd P n ops S ((⟨some dd,.move x,tt,pos,af,gd⟩,false) :: L) T T':=.p (fun W _ h=>t9 h hx) tl hg ht
theorem Cd.assign{x:Operand}{v:Value}(hx:evT T x=some v)(tl:Cd P n ops S L ((dd,v) :: T) T')(hg:gdB ops n T gd=true:=by rfl)(ht:Nat.blt dd n=true:=by rfl):Cd P n ops S ((⟨some dd,.assign x,tt,pos,af,gd⟩,false) :: L) T T':=.p (fun W _ h=>sA h hx) tl hg ht
theorem Cd.pickT{c x y:Operand}{v:Value}(hc:evT T c=some (.bool true))(hx:evT T x=some v)(tl:Cd P n ops S L ((dd,v) :: T) T')(hg:gdB ops n T gd=true:=by rfl)(ht:Nat.blt dd n=true:=by rfl):Cd P n ops S ((⟨some dd,.pick c x y,tt,pos,af,gd⟩,false) :: L) T T':=.p (fun W _ h=>rG h hc hx) tl hg ht
theorem Cd.pickF{c x y:Operand}{v:Value}(hc:evT T c=some (.bool false))(hx:evT T y=some v)(tl:Cd P n ops S L ((dd,v) :: T) T')(hg:gdB ops n T gd=true:=by rfl)(ht:Nat.blt dd n=true:=by rfl):Cd P n ops S ((⟨some dd,.pick c x y,tt,pos,af,gd⟩,false) :: L) T T':=.p (fun W _ h=>n0 h hc hx) tl hg ht
theorem Cd.not{t:TypeId}{x:Operand}{b:Bool}(hx:evT T x=some (.bool b))(tl:Cd P n ops S L ((dd,(.bool !b)) :: T) T')(hg:gdB ops n T gd=true:=by rfl)(ht:Nat.blt dd n=true:=by rfl):Cd P n ops S ((⟨some dd,.unOp .not t x,tt,pos,af,gd⟩,false) :: L) T T':=.p (fun W _ h=>xJ h hx) tl hg ht
theorem Cd.len{t e:TypeId}{x:Operand}{p:Option Addr}{l c:Nat}(hx:evT T x=some (.slice p l c))(hu:P.underlying t=some (.slice e))(tl:Cd P n ops S L ((dd,(.int .i64 l)) :: T) T')(hg:gdB ops n T gd=true:=by rfl)(ht:Nat.blt dd n=true:=by rfl):Cd P n ops S ((⟨some dd,.call { callee:=.builtin .len,args:=#[x],argTypes:=#[t] },tt,pos,af,gd⟩,false) :: L) T T':=.p (fun W _ h=>xK h hx hu) tl hg ht
theorem Cd.add(hx:evT T x=some (.int k p))(hy:evT T y=some (.int k q))(hr:k.wrap (p+q)=r)(tl:Cd P n ops S L ((dd,(.int k r)) :: T) T')(hg:gdB ops n T gd=true:=by rfl)(ht:Nat.blt dd n=true:=by rfl):Cd P n ops S ((⟨some dd,.binOp .add t x y t2,tt,pos,af,gd⟩,false) :: L) T T':=.p (fun W _ h=>xL h hx hy hr) tl hg ht
theorem Cd.sub(hx:evT T x=some (.int k p))(hy:evT T y=some (.int k q))(hr:k.wrap (p - q)=r)(tl:Cd P n ops S L ((dd,(.int k r)) :: T) T')(hg:gdB ops n T gd=true:=by rfl)(ht:Nat.blt dd n=true:=by rfl):Cd P n ops S ((⟨some dd,.binOp .sub t x y t2,tt,pos,af,gd⟩,false) :: L) T T':=.p (fun W _ h=>xM h hx hy hr) tl hg ht
theorem Cd.mul(hx:evT T x=some (.int k p))(hy:evT T y=some (.int k q))(hr:k.wrap (p*q)=r)(tl:Cd P n ops S L ((dd,(.int k r)) :: T) T')(hg:gdB ops n T gd=true:=by rfl)(ht:Nat.blt dd n=true:=by rfl):Cd P n ops S ((⟨some dd,.binOp .mul t x y t2,tt,pos,af,gd⟩,false) :: L) T T':=.p (fun W _ h=>zg h hx hy hr) tl hg ht
theorem Cd.quo(hx:evT T x=some (.int k p))(hy:evT T y=some (.int k q))(h0:q≠0)(hr:k.wrap (p.tdiv q)=r)(tl:Cd P n ops S L ((dd,(.int k r)) :: T) T')(hg:gdB ops n T gd=true:=by rfl)(ht:Nat.blt dd n=true:=by rfl):Cd P n ops S ((⟨some dd,.binOp .quo t x y t2,tt,pos,af,gd⟩,false) :: L) T T':=.p (fun W _ h=>zh h hx hy h0 hr) tl hg ht
theorem Cd.rem(hx:evT T x=some (.int k p))(hy:evT T y=some (.int k q))(h0:q≠0)(hr:p.tmod q=r)(tl:Cd P n ops S L ((dd,(.int k r)) :: T) T')(hg:gdB ops n T gd=true:=by rfl)(ht:Nat.blt dd n=true:=by rfl):Cd P n ops S ((⟨some dd,.binOp .rem t x y t2,tt,pos,af,gd⟩,false) :: L) T T':=.p (fun W _ h=>xN h hx hy h0 hr) tl hg ht
theorem Cd.and(hx:evT T x=some (.int k p))(hy:evT T y=some (.int k q))(hr:k.wrap (BitVec.ofInt k.bits p &&& BitVec.ofInt k.bits q).toNat=r)(tl:Cd P n ops S L ((dd,(.int k r)) :: T) T')(hg:gdB ops n T gd=true:=by rfl)(ht:Nat.blt dd n=true:=by rfl):Cd P n ops S ((⟨some dd,.binOp .and t x y t2,tt,pos,af,gd⟩,false) :: L) T T':=.p (fun W _ h=>zi h hx hy hr) tl hg ht
theorem Cd.or(hx:evT T x=some (.int k p))(hy:evT T y=some (.int k q))(hr:k.wrap (BitVec.ofInt k.bits p ||| BitVec.ofInt k.bits q).toNat=r)(tl:Cd P n ops S L ((dd,(.int k r)) :: T) T')(hg:gdB ops n T gd=true:=by rfl)(ht:Nat.blt dd n=true:=by rfl):Cd P n ops S ((⟨some dd,.binOp .or t x y t2,tt,pos,af,gd⟩,false) :: L) T T':=.p (fun W _ h=>AH h hx hy hr) tl hg ht
theorem Cd.shl{yk:IntKind}(hx:evT T x=some (.int k p))(hy:evT T y=some (.int yk q))(h0:0≤q)(hr:k.wrap (p*2 ^ min q.toNat k.bits)=r)(tl:Cd P n ops S L ((dd,(.int k r)) :: T) T')(hg:gdB ops n T gd=true:=by rfl)(ht:Nat.blt dd n=true:=by rfl):Cd P n ops S ((⟨some dd,.binOp .shl t x y t2,tt,pos,af,gd⟩,false) :: L) T T':=.p (fun W _ h=>zj h hx hy h0 hr) tl hg ht
theorem Cd.shr{yk:IntKind}(hx:evT T x=some (.int k p))(hy:evT T y=some (.int yk q))(h0:0≤q)(hr:p.fdiv (2 ^ min q.toNat k.bits)=r)(tl:Cd P n ops S L ((dd,(.int k r)) :: T) T')(hg:gdB ops n T gd=true:=by rfl)(ht:Nat.blt dd n=true:=by rfl):Cd P n ops S ((⟨some dd,.binOp .shr t x y t2,tt,pos,af,gd⟩,false) :: L) T T':=.p (fun W _ h=>zk h hx hy h0 hr) tl hg ht
theorem Cd.lss(hx:evT T x=some (.int k p))(hy:evT T y=some (.int k q))(tl:Cd P n ops S L ((dd,(.bool (decide (p<q)))) :: T) T')(hg:gdB ops n T gd=true:=by rfl)(ht:Nat.blt dd n=true:=by rfl):Cd P n ops S ((⟨some dd,.binOp .lss t x y t2,tt,pos,af,gd⟩,false) :: L) T T':=.p (fun W _ h=>xO h hx hy) tl hg ht
theorem Cd.leq(hx:evT T x=some (.int k p))(hy:evT T y=some (.int k q))(tl:Cd P n ops S L ((dd,(.bool (decide (p≤q)))) :: T) T')(hg:gdB ops n T gd=true:=by rfl)(ht:Nat.blt dd n=true:=by rfl):Cd P n ops S ((⟨some dd,.binOp .leq t x y t2,tt,pos,af,gd⟩,false) :: L) T T':=.p (fun W _ h=>xP h hx hy) tl hg ht
theorem Cd.gtr(hx:evT T x=some (.int k p))(hy:evT T y=some (.int k q))(tl:Cd P n ops S L ((dd,(.bool (decide (q<p)))) :: T) T')(hg:gdB ops n T gd=true:=by rfl)(ht:Nat.blt dd n=true:=by rfl):Cd P n ops S ((⟨some dd,.binOp .gtr t x y t2,tt,pos,af,gd⟩,false) :: L) T T':=.p (fun W _ h=>xQ h hx hy) tl hg ht
theorem Cd.geq(hx:evT T x=some (.int k p))(hy:evT T y=some (.int k q))(tl:Cd P n ops S L ((dd,(.bool (decide (q≤p)))) :: T) T')(hg:gdB ops n T gd=true:=by rfl)(ht:Nat.blt dd n=true:=by rfl):Cd P n ops S ((⟨some dd,.binOp .geq t x y t2,tt,pos,af,gd⟩,false) :: L) T T':=.p (fun W _ h=>xR h hx hy) tl hg ht
theorem Cd.eql(hx:evT T x=some (.int k p))(hy:evT T y=some (.int k q))(tl:Cd P n ops S L ((dd,(.bool (decide (p=q)))) :: T) T')(hg:gdB ops n T gd=true:=by rfl)(ht:Nat.blt dd n=true:=by rfl):Cd P n ops S ((⟨some dd,.binOp .eql t x y t2,tt,pos,af,gd⟩,false) :: L) T T':=.p (fun W _ h=>xS h hx hy) tl hg ht
theorem Cd.neq(hx:evT T x=some (.int k p))(hy:evT T y=some (.int k q))(tl:Cd P n ops S L ((dd,(.bool (decide (p≠q)))) :: T) T')(hg:gdB ops n T gd=true:=by rfl)(ht:Nat.blt dd n=true:=by rfl):Cd P n ops S ((⟨some dd,.binOp .neq t x y t2,tt,pos,af,gd⟩,false) :: L) T T':=.p (fun W _ h=>xT h hx hy) tl hg ht
theorem Cd.neqB{b c:Bool}(hx:evT T x=some (.bool b))(hy:evT T y=some (.bool c))(hu:P.underlying t=some .bool)(tl:Cd P n ops S L ((dd,(.bool (!(b == c)))) :: T) T')(hg:gdB ops n T gd=true:=by rfl)(ht:Nat.blt dd n=true:=by rfl):Cd P n ops S ((⟨some dd,.binOp .neq t x y t2,tt,pos,af,gd⟩,false) :: L) T T':=.p (fun W _ h=>wY h hx hy hu) tl hg ht
theorem Cd.neqS{b c:ByteArray}(hx:evT T x=some (.string b))(hy:evT T y=some (.string c))(tl:Cd P n ops S L ((dd,(.bool (!(b.toList == c.toList)))) :: T) T')(hg:gdB ops n T gd=true:=by rfl)(ht:Nat.blt dd n=true:=by rfl):Cd P n ops S ((⟨some dd,.binOp .neq t x y t2,tt,pos,af,gd⟩,false) :: L) T T':=.p (fun W _ h=>ua h hx hy) tl hg ht
theorem Cd.eqlP{e:TypeId}{b:Option Addr}(hx:evT T x=some (.pointer b))(hy:evT T y=some (.pointer none))(hu:P.underlying t=some (.pointer e))(tl:Cd P n ops S L ((dd,(.bool b.isNone)) :: T) T')(hg:gdB ops n T gd=true:=by rfl)(ht:Nat.blt dd n=true:=by rfl):Cd P n ops S ((⟨some dd,.binOp .eql t x y t2,tt,pos,af,gd⟩,false) :: L) T T':=.p (fun W _ h=>wZ h hx hy hu) tl hg ht
theorem Cd.conv{s e:TypeId}{k':IntKind}{ds:TypeDesc}(hx:evT T x=some (.int k p))(hs:P.underlying s=some ds)(hd:P.underlying e=some (.int k'))(hr:k'.wrap p=r)(tl:Cd P n ops S L ((dd,(.int k' r)) :: T) T')(hg:gdB ops n T gd=true:=by rfl)(ht:Nat.blt dd n=true:=by rfl):Cd P n ops S ((⟨some dd,.convert s e x,tt,pos,af,gd⟩,false) :: L) T T':=.p (fun W _ h=>xe h hx hs hd hr) tl hg ht
theorem Cd.extract{x:Operand}{vs:Array Value}{i:Nat}{v:Value}(hx:evT T x=some (.tuple vs))(hv:rD vs.toList i=some v)(tl:Cd P n ops S L ((dd,v) :: T) T')(hg:gdB ops n T gd=true:=by rfl)(ht:Nat.blt dd n=true:=by rfl):Cd P n ops S ((⟨some dd,.extract x i,tt,pos,af,gd⟩,false) :: L) T T':=.p (fun W _ h=>qP h hx hv) tl hg ht
theorem Cd.nilCheck{x:Operand}{p:Addr}(hx:evT T x=some (.pointer (some p)))(tl:Cd P n ops S L ((dd,(.pointer (some p))) :: T) T')(hg:gdB ops n T gd=true:=by rfl)(ht:Nat.blt dd n=true:=by rfl):Cd P n ops S ((⟨some dd,.nilCheck x,tt,pos,af,gd⟩,false) :: L) T T':=.p (fun W _ h=>oL h hx) tl hg ht
theorem Cd.fieldAddr{t:TypeId}{x:Operand}{i g o:Nat}{fs:Array Field}{f:Field}{s off:Nat}(hx:evT T x=some (.pointer (some ⟨g,o,none⟩)))(hu:P.underlying t=some (.struct fs))(hf:fs[i]? = some f)(hs:(P.info? f.type).map (·.size)=some (s+1))(ho:o+f.offset=off)(tl:Cd P n ops S L ((dd,(.pointer (some ⟨g,off,none⟩))) :: T) T')(hg:gdB ops n T gd=true:=by rfl)(ht:Nat.blt dd n=true:=by rfl):Cd P n ops S ((⟨some dd,.fieldAddr t x i,tt,pos,af,gd⟩,false) :: L) T T':=.p (fun W _ h=>mh h hx hu hf hs ho) tl hg ht
theorem Cd.fieldAddrQ{t:TypeId}{x:Operand}{i g o:Nat}{fs:Array Field}{f:Field}{s:Nat}(q:Nat)(hx:evT T x=some (.pointer (some ⟨g,o,none⟩)))(hu:P.underlying t=some (.struct fs))(hf:fs[i]? = some f)(hs:(P.info? f.type).map (·.size)=some (s+1))(hq:f.offset=q)(tl:Cd P n ops S L ((dd,(.pointer (some ⟨g,o+q,none⟩))) :: T) T')(hg:gdB ops n T gd=true:=by rfl)(ht:Nat.blt dd n=true:=by rfl):Cd P n ops S ((⟨some dd,.fieldAddr t x i,tt,pos,af,gd⟩,false) :: L) T T':=.p (fun W _ h=>nE h q hx hu hf hs hq) tl hg ht
theorem Cd.build{t:TypeId}{parts:Array (Nat×Operand)}{z cs:List Value}{pl:List (Nat×Value)}(hp:K.evP T parts.toList=some pl)(hz:((P.info? t).bind (·.zero)).map (·.cells.toList)=some z)(hf:lR P t z=true)(h1:pl.all (fun p=>decide (p.1<z.length) && p.2.oneCell')=true)(hc:l9 z pl=cs)(tl:Cd P n ops S L ((dd,(.agg cs.toArray)) :: T) T')(hg:gdB ops n T gd=true:=by rfl)(ht:Nat.blt dd n=true:=by rfl):Cd P n ops S ((⟨some dd,.build t parts,tt,pos,af,gd⟩,false) :: L) T T':=.p (fun W _ h=>uc h hp hz hf h1 hc) tl hg ht
theorem Cd.loadB1(m:∀ W,S W→MemOk X w0 M W){t:TypeId}{td:TypeDesc}{x:Operand}{i g o:Nat}{e:TypeId}{cs:List Value}{v:Value}(hm:lk M i=some (.box g e cs))(hx:evT T x=some (.pointer (some ⟨g,o,none⟩)))(hv:cs[o]? = some v)(hu:P.underlying t=some td)(hr:td.isRow=false)(tl:Cd P n ops S L ((dd,v) :: T) T')(hg:gdB ops n T gd=true:=by rfl)(ht:Nat.blt dd n=true:=by rfl):Cd P n ops S ((⟨some dd,.load t x,tt,pos,af,gd⟩,true) :: L) T T':=.c (fun W hW _ h=>mH h (m W hW) hm hx hv hu hr) tl hg ht
theorem Cd.loadBR(m:∀ W,S W→MemOk X w0 M W){t:TypeId}{td:TypeDesc}{x:Operand}{i g o k:Nat}{e:TypeId}{cs vs:List Value}(hm:lk M i=some (.box g e cs))(hx:evT T x=some (.pointer (some ⟨g,o,none⟩)))(hu:P.underlying t=some td)(hr:td.isRow=true)(hs:(P.info? t).map (·.size)=some k)(hk:o+k≤cs.length)(hv:(cs.drop o).take k=vs)(tl:Cd P n ops S L ((dd,(.agg vs.toArray)) :: T) T')(hg:gdB ops n T gd=true:=by rfl)(ht:Nat.blt dd n=true:=by rfl):Cd P n ops S ((⟨some dd,.load t x,tt,pos,af,gd⟩,true) :: L) T T':=.c (fun W hW _ h=>mI h (m W hW) hm hx hu hr hs hk hv) tl hg ht
theorem Cd.loadC1(m:∀ W,S W→MemOk X w0 M W){t:TypeId}{td:TypeDesc}{x:Operand}{i b o q:Nat}{vs:List Value}{v:Value}(hm:lk M i=some (.cel b o vs))(hx:evT T x=some (.pointer (some ⟨b,o+q,none⟩)))(hv:vs[q]? = some v)(hu:P.underlying t=some td)(hr:td.isRow=false)(tl:Cd P n ops S L ((dd,v) :: T) T')(hg:gdB ops n T gd=true:=by rfl)(ht:Nat.blt dd n=true:=by rfl):Cd P n ops S ((⟨some dd,.load t x,tt,pos,af,gd⟩,true) :: L) T T':=.c (fun W hW _ h=>ql h (m W hW) hm hx hv hu hr) tl hg ht
theorem Cd.loadC0(m:∀ W,S W→MemOk X w0 M W){t:TypeId}{td:TypeDesc}{x:Operand}{i b o:Nat}{vs:List Value}{v:Value}(hm:lk M i=some (.cel b o (v :: vs)))(hx:evT T x=some (.pointer (some ⟨b,o,none⟩)))(hu:P.underlying t=some td)(hr:td.isRow=false)(tl:Cd P n ops S L ((dd,v) :: T) T')(hg:gdB ops n T gd=true:=by rfl)(ht:Nat.blt dd n=true:=by rfl):Cd P n ops S ((⟨some dd,.load t x,tt,pos,af,gd⟩,true) :: L) T T':=.c (fun W hW _ h=>qm h (m W hW) hm hx hu hr) tl hg ht
theorem Cd.loadCR(m:∀ W,S W→MemOk X w0 M W){t:TypeId}{td:TypeDesc}{x:Operand}{i b o:Nat}{vs:List Value}(hm:lk M i=some (.cel b o vs))(hx:evT T x=some (.pointer (some ⟨b,o,none⟩)))(hu:P.underlying t=some td)(hr:td.isRow=true)(hs:(P.info? t).map (·.size)=some vs.length)(tl:Cd P n ops S L ((dd,(.agg vs.toArray)) :: T) T')(hg:gdB ops n T gd=true:=by rfl)(ht:Nat.blt dd n=true:=by rfl):Cd P n ops S ((⟨some dd,.load t x,tt,pos,af,gd⟩,true) :: L) T T':=.c (fun W hW _ h=>sC h (m W hW) hm hx hu hr hs) tl hg ht
theorem Cd.str{s t e:TypeId}{x:Operand}{v:Value}{bs:List Int}(hx:evT T x=some v)(hv:∀ W,S W→IsNums .u8 W v bs)(hs:P.underlying s=some (.slice e))(he:P.underlying e=some (.int .u8))(hd:P.underlying t=some .string)(tl:Cd P n ops S L ((dd,(.string (strOfNums bs))) :: T) T')(hg:gdB ops n T gd=true:=by rfl)(ht:Nat.blt dd n=true:=by rfl):Cd P n ops S ((⟨some dd,.convert s t x,tt,pos,af,gd⟩,true) :: L) T T':=.c (fun W hW _ h=>xX h hx (hv W hW) hs he hd) tl hg ht
theorem Cd.loadAt{t:TypeId}{td:TypeDesc}{x:Operand}{b o:Nat}{vs:List Value}(hr:∀ W,S W→W.rangeAt b o vs)(hx:evT T x=some (.pointer (some ⟨b,o,none⟩)))(hu:P.underlying t=some td)(hd:td.isRow=true)(hs:(P.info? t).map (·.size)=some vs.length)(tl:Cd P n ops S L ((dd,(.agg vs.toArray)) :: T) T')(hg:gdB ops n T gd=true:=by rfl)(ht:Nat.blt dd n=true:=by rfl):Cd P n ops S ((⟨some dd,.load t x,tt,pos,af,gd⟩,true) :: L) T T':=.c (fun W hW _ h=>sF h (hr W hW) hx hu hd hs) tl hg ht
theorem Cd.loadAt1{t:TypeId}{td:TypeDesc}{x:Operand}{b o q q':Nat}{vs:List Value}{v:Value}(hr:∀ W,S W→W.rangeAt b o vs)(hx:evT T x=some (.pointer (some ⟨b,q',none⟩)))(hq:q'=o+q)(hv:rD vs q=some v)(hu:P.underlying t=some td)(hd:td.isRow=false)(tl:Cd P n ops S L ((dd,v) :: T) T')(hg:gdB ops n T gd=true:=by rfl)(ht:Nat.blt dd n=true:=by rfl):Cd P n ops S ((⟨some dd,.load t x,tt,pos,af,gd⟩,true) :: L) T T':=.c (fun W hW _ h=>oo h (hr W hW) hx hq hv hu hd) tl hg ht
theorem Cd.cap{t e:TypeId}{x:Operand}{p:Option Addr}{l c:Nat}(hx:evT T x=some (.slice p l c))(hu:P.underlying t=some (.slice e))(tl:Cd P n ops S L ((dd,(.int .i64 c)) :: T) T')(hg:gdB ops n T gd=true:=by rfl)(ht:Nat.blt dd n=true:=by rfl):Cd P n ops S ((⟨some dd,.call { callee:=.builtin .cap,args:=#[x],argTypes:=#[t] },tt,pos,af,gd⟩,false) :: L) T T':=.p (fun W _ h=>zf h hx hu) tl hg ht
end
section
variable {P:Program} {n:Nat} {ops:Array Oper} {S:World→Prop} {L:List (Oper×Bool)} {T T':List (Nat×Value)} {w0:World} {X:Cx} {M:Mm} {dd:Tmp} {tt:TypeId} {pos:String} {af:Array Edge} {gd:Option (Nat×Bool)}
theorem Cd.fa{t:TypeId}{x:Operand}{i g o:Nat}{fs:Array Field}{f:Field}(off:Nat)(hx:evT T x=some (.pointer (some ⟨g,o,none⟩)))(hu:P.underlying t=some (.struct fs))(tl:Cd P n ops S L ((dd,(.pointer (some ⟨g,off,none⟩))) :: T) T')(hf:fs[i]? = some f:=by rfl)(hs:(P.info? f.type).map (·.size)=some (0+1):=by kernel_rfl)(ho:o+f.offset=off:=by rfl)(hg:gdB ops n T gd=true:=by rfl)(ht:Nat.blt dd n=true:=by rfl):Cd P n ops S ((⟨some dd,.fieldAddr t x i,tt,pos,af,gd⟩,false) :: L) T T':=.p (fun W _ h=>mh h hx hu hf hs ho) tl hg ht
theorem Cd.lb(m:∀ W,S W→MemOk X w0 M W)(i:Nat){t:TypeId}{td:TypeDesc}{x:Operand}{g o:Nat}{e:TypeId}{cs:List Value}{v:Value}(hu:P.underlying t=some td)(hx:evT T x=some (.pointer (some ⟨g,o,none⟩)))(hm:lk M i=some (.box g e cs))(hv:cs[o]? = some v)(tl:Cd P n ops S L ((dd,v) :: T) T')(hr:td.isRow=false:=by rfl)(hg:gdB ops n T gd=true:=by rfl)(ht:Nat.blt dd n=true:=by rfl):Cd P n ops S ((⟨some dd,.load t x,tt,pos,af,gd⟩,true) :: L) T T':=.c (fun W hW _ h=>mH h (m W hW) hm hx hv hu hr) tl hg ht
end
end
section
def u5(bl pe:Int)(place:List Int):Prop:=(∀ g∈place,1≤g∧g≤7)∧(place.length:Int)=(bl+pe - 1) / pe
def pU(vo bl sz pe to:Int)(place:List Int):Prop:=0≤vo∧vo≤7∧1≤bl∧bl≤256∧1≤sz∧sz≤32∧1≤pe∧pe≤bl∧u5 bl pe place∧0≤to∧to≤1099511627776
theorem l1{l:List Int}{k:Nat}(h:k<l.length):l.getD k 0∈l:=by rw[List.getD,List.getElem?_eq_getElem h];exact List.getElem_mem _
theorem wJ{l:List Int}{k:Nat}{P:Int→Prop}(h:∀ j,j<k→P (l.getD j 0))(hk:P (l.getD k 0)):∀ j,j<k+1→P (l.getD j 0):=fun j hj=>by
 rcases Nat.lt_or_ge j k with h1|h1
 · exact h j h1
 obtain rfl:j=k:=by omega
 exact hk
theorem yR{l:List Int}{P:Int→Prop}(h:∀ j,j<l.length→P (l.getD j 0)):∀ g∈l,P g:=fun g hg=>by
 obtain⟨j,hj,rfl⟩:=List.getElem_of_mem hg
 have:=h j hj
 rwa [List.getD,List.getElem?_eq_getElem hj] at this
theorem qf(a b:Int)(w0:World)(ha:0≤a∧a≤1000000)(hb:1≤b∧b≤1000000) :
   Calls Tryz.prog 111 #[.int .i64 a,.int .i64 b] w0 fun e w'=>e=.returned (.int .i64 ((a+b - 1) / b))∧Below w0.heap.size w0 w':=by
 refine mR Tryz.func111 rfl Tryz.ntmps111 fun Y U =>?_
 have m0:=MemOk.start (fun _=>False) w0
 refine la U (.assign rfl .nil) fun Y U =>?_
 refine la U (.move rfl<|.move rfl<|.add rfl rfl (r:=a+b) (IntWalk.i64_in _ (by omega))<|.sub rfl rfl (r:=a+b - 1) (IntWalk.i64_in _ (by omega))<|.move rfl<|.quo rfl rfl (by omega) (r:=(a+b - 1) / b) (by rw[Int.tdiv_eq_ediv_of_nonneg (by omega)];exact IntWalk.i64_in _ (by have:=Int.ediv_le_self b (show 0≤a+b - 1 by omega);have:=Int.ediv_nonneg (show 0≤a+b - 1 by omega) (show 0≤b by omega);omega))<|.assign rfl .nil) fun Y U =>?_
 refine rt1 U ?_
 exact⟨rfl,m0.below⟩
end
section
def itD(x:Int×List Int):List D:=[.v (.int .i64 x.1),.ns .u8 x.2]
def wrD(x:Int×List (Int×List Int)):List D:=[.v (.int .i64 x.1),.l 2 (x.2.map itD)]
theorem lm{A:List (Int×List Int)}{k:Nat}{b:Int}{d:List Int}(h:A[k]? = some (b,d)):(A.map itD)[k]? = some [.v (.int .i64 b),.ns .u8 d]:=by simp [h,itD]
theorem mj{A:List (Int×List (Int×List Int))}{k:Nat}{b:Int}{d:List (Int×List Int)}(h:A[k]? = some (b,d)):(A.map wrD)[k]? = some [.v (.int .i64 b),.l 2 (d.map itD)]:=by simp [h,wrD]
def rx(es:List (Int×List Int)):Prop:=∀ e∈es,e.2.length≤140737488351232
def rT(ws:List (Int×List (Int×List Int))):Prop:=∀ e∈ws,e.2.length≤1000000∧rx e.2
theorem ln{α:Type}{l:List α}{k:Nat}{x:α}(h:l[k]? = some x):l.take (k+1)=l.take k++[x]:=by
 obtain⟨hk,e⟩:=List.getElem?_eq_some_iff.1 h
 rw[List.take_succ_eq_append_getElem hk,e]
theorem xy{N:Nat}{S:Nat→Prop}{w:World}{v:Value}{e:TypeId}{k:Nat}(h:w.ownsRow N e k v 0 []):RowOk N S w v e k []:=⟨[],by simpa using h,rfl,by simp,by simp,by simp⟩
theorem tE(d:List Int)(p0:Option Addr)(c0:Nat)(w0:World)(h0:Rd (fun _=>True) w0 (.slice p0 d.length c0) (.ns .u8 d))(hd:d.length≤140737488351232) :
   Calls Tryz.prog 123 #[.slice p0 d.length c0] w0 fun e w' => ∃ p c,e=.returned (.slice p d.length c)∧Rd (New w0) w' (.slice p d.length c) (.ns .u8 d)∧Below w0.heap.size w0 w':=by
 refine mp Tryz.func123 rfl Tryz.ntmps123 fun Y U =>?_
 have m0:=MemOk.start (fun _=>False) w0
 refine la U (.assign rfl .nil) fun Y U =>?_
 refine zsr fun K0 hK0 =>?_
 refine k9 U (.move rfl .nil) fun Y U =>?_
 refine plz (nC U m0 2 rfl rfl (h0.now' m0 rfl).ns_out.nums U22 lJ (by decide) (by omega) rfl fun p4 c4 Y w5 U m5 =>?_)
 refine gz hK0 U (.assign rfl .nil) fun Y U =>?_
 refine rt1 U ?_
 have m7:=m5.freezeN 2 rfl
 exact⟨_,_,rfl,m7.outF (i:=2) rfl,m7.below⟩
end
section
theorem vQ:lR Tryz.prog 110 [.int .i64 0,.slice none 0 0]=true:=by kernel_rfl
theorem Rise.low{h:List Ver}(hr:Rise h){t:Int}{j q:Nat}(hj:j<h.length)(hle:(h.getD j v0).1≤t)(hq:q≤j):(h.getD q v0).1≤t:=by
 rcases Nat.lt_or_ge q j with h1|h1
 · have:=hr.lt h1 hj;omega
 obtain rfl:q=j:=by omega
 exact hle
theorem Rise.high{h:List Ver}(hr:Rise h){t:Int}{j q:Nat}(hq:q<h.length)(hgt:t<(h.getD j v0).1)(hj:j≤q):t<(h.getD q v0).1:=by
 rcases Nat.lt_or_ge j q with h1|h1
 · have:=hr.lt h1 hq;omega
 obtain rfl:j=q:=by omega
 exact hgt
theorem uu(s:Int)(w0:World) :
   Calls Tryz.prog 94 #[.int .i64 s] w0 fun e w'=>e=.returned (.bool (decide (1≤s∧s≤1099511627776)))∧Below w0.heap.size w0 w':=by
 refine mp Tryz.func94 rfl Tryz.ntmps94 fun Y U =>?_
 have m0:=MemOk.start (fun _=>False) w0
 refine la U (.assign rfl .nil) fun Y U =>?_
 refine zsr fun K0 hK0 =>?_
 refine k9 U (.move rfl<|.geq rfl rfl<|.move rfl .nil) fun Y U =>?_
 refine bc U 5 ?_ ?_
 ·
  intro hb8 U;try simp only [QQ,Qax] at hb8
  refine gz hK0 U (.moveZ rfl<|.leqZ rfl rfl<|.pickT rfl rfl<|.assign rfl<|.nil) fun Y U =>?_
  refine rt1 U ?_
  exact⟨by first|rfl|(simp_all;done)|(simp_all;omega),m0.below⟩
 intro hb8 U;try simp only [QQ,Qax] at hb8
 refine gz hK0 U (.sk<|.sk<|.pickF rfl rfl<|.assign rfl<|.nil) fun Y U =>?_
 refine rt1 U ?_
 exact⟨by first|rfl|(simp_all;done)|(simp_all;omega),m0.below⟩
theorem Au(X:Cx)(B1 B2:Nat)(h:List Ver)(t:Int)(i:Nat)(p:Option Addr)(c:Nat)(w0:World)(hi:i<h.length)(m0:MemOk X w0 [(1,.box B1 94 [.slice p h.length c]),(2,.box B2 2 [.int .i64 t]),(3,.dat (.slice p h.length c) (.l 2 (h.map itD)))] w0) :
   Calls Tryz.prog 117 #[.int .i64 i,.pointer (some ⟨B1,0,none⟩),.pointer (some ⟨B2,0,none⟩)] w0 fun e w'=>e=.returned (.bool (decide ((h.getD i v0).1 > t)))∧MemOk X w0 [(1,.box B1 94 [.slice p h.length c]),(2,.box B2 2 [.int .i64 t]),(3,.dat (.slice p h.length c) (.l 2 (h.map itD)))] w':=by
 refine qr Tryz.func117 rfl Tryz.ntmps117 fun Y U =>?_
 obtain⟨⟨xs,xd⟩,hes⟩:∃ e,h[i]? = some e:=⟨_,List.getElem?_eq_getElem hi⟩
 refine la U (.assign rfl .nil) fun Y U =>?_
 refine wsk fun K0 hK0 =>?_
 obtain⟨b2,o2,vs2,hp2,hR2,ho2,m2⟩:=m0.openR (i:=3) rfl (i) (r:=[.v (.int .i64 xs),.ns .u8 xd]) (lm hes) 20 rfl
 revert U
 cases hp2;clear m0 ho2
 rcases hR2 with _|⟨ab,_|⟨aa,_|_⟩⟩
 obtain rfl:=ab.v_out
 clear ab
 obtain⟨p3,c3,hv3,hc3⟩:=aa.ns_shape;subst hv3
 intro U
 have m3:=m2.dat 21 rfl (aa.cast (fun _ h=>(lf rfl h)));clear m2 aa
 have m4:=m3.oz [1,2,3,20,21]
 refine region_p 8 (B:=[(1,_),(2,_),(3,_),(20,_),(21,_)]) (m4.to i5l) m4 (by kernel_rfl) (fun w5 hP5 m5 =>?_);clear m4
 refine goR hP5 [0,1,2,3,4,5,6,7] [0,4,5] 8 0 255 U (m5.to i5l) (.lb hh 1 U94 rfl rfl rfl<|.move rfl<|.p (fun _ _ h_=>li h_ rfl rfl U94 lN (i) rfl hi)<|.fieldAddrQ 0 rfl nf rfl (s:=0) (by kernel_rfl) rfl<|.loadC0 hh (i:=20) rfl rfl U2 rfl<|.lb hh 2 U2 rfl rfl rfl<|.gtr rfl rfl<|.assign rfl .nil) fun Y U =>?_
 refine wad ?_
 refine hK0 _ _ ?_
 refine rt1 U ?_
 exact⟨by rw[show(h.getD i v0).1=xs by rw[List.getD,hes];rfl],m5.only [1,2,3]⟩
theorem vR(X:Cx)(B1 B2:Nat)(h:List Ver)(t:Int)(p:Option Addr)(c:Nat)(w0:World)(hl:h.length≤1000000)(hr:Rise h)(m0:MemOk X w0 [(1,.box B1 94 [.slice p h.length c]),(2,.box B2 2 [.int .i64 t]),(3,.dat (.slice p h.length c) (.l 2 (h.map itD)))] w0) :
   Calls Tryz.prog 116 #[.int .i64 h.length,.func (.func 117) #[] #[.pointer (some ⟨B1,0,none⟩),.pointer (some ⟨B2,0,none⟩)]] w0 fun e w'=>e=.returned (.int .i64 (upN h t))∧MemOk X w0 [(1,.box B1 94 [.slice p h.length c]),(2,.box B2 2 [.int .i64 t]),(3,.dat (.slice p h.length c) (.l 2 (h.map itD)))] w':=by
 refine mR Tryz.func116 rfl Tryz.ntmps116 fun Y U =>?_
 refine la U (.assign rfl .nil) fun Y U =>?_
 refine la U (.move rfl<|.assign rfl<|.assign rfl .nil) fun Y U =>?_
 refine wsk fun K0 hK0 =>?_
 refine wp_block ?_
 refine wp_loop_ghost (fun g a w => ∃ (i j:Nat),i≤j∧j≤h.length∧g=j - i∧(∀ q,q<i→(h.getD q v0).1≤t)∧(∀ q,j≤q→q<h.length→t<(h.getD q v0).1)∧Has 26 [(1,.func (.func 117) #[] #[.pointer (some ⟨B1,0,none⟩),.pointer (some ⟨B2,0,none⟩)]),(5,.int .i64 i),(6,.int .i64 j)] a∧MemOk X w0 [(1,.box B1 94 [.slice p h.length c]),(2,.box B2 2 [.int .i64 t]),(3,.dat (.slice p h.length c) (.l 2 (h.map itD)))] w) (h.length) ?_ ?_
 · exact⟨0,h.length,Nat.zero_le _,Nat.le_refl _,rfl,fun q hq=>by omega,fun q h1 h2=>by omega,U.only [1,5,6],m0.only [1,2,3]⟩
 clear U m0
 rintro g Y w5 ⟨i,j,hij,hj,hg,hA,hB,U,m5⟩
 refine wsk fun K1 hK1 =>?_
 refine la U (.move rfl<|.move rfl<|.lss rfl rfl .nil) fun Y U =>?_
 refine bc U 11 ?_ ?_
 ·
  intro hb9 U;try simp only [QQ,Qax] at hb9
  have hlt:i<j:=by have:=hb9;first|omega|(simp at this;omega)
  refine wct U ?_
  refine zss (hK1 _ _ ?_)
  refine wp_block ?_
  refine la U (.move rfl<|.move rfl<|.add rfl rfl (IntWalk.i64_in _ (by omega))<|.conv rfl U3 AM (IntWalk.u64_in _ (by omega))<|.shr rfl rfl (by omega) (r:=(((i+j) / 2:Nat):Int)) (by rw[show((2:Int) ^ min (1:Int).toNat IntKind.u64.bits)=2 from rfl,Int.fdiv_eq_ediv_of_nonneg _ (by omega)];omega)<|.conv rfl AM U3 (IntWalk.i64_in _ (by omega))<|.assign rfl .nil) fun Y U =>?_
  replace U:=U.oz [1,5,6,7]
  refine zsr fun K2 hK2 =>?_
  refine k9 U (.move rfl<|.move rfl .nil) fun Y U =>?_
  refine plz (rF U rfl Tryz.func117 rfl rfl rfl rfl (Au _ B1 B2 h t ((i+j) / 2) _ _ _ (by omega) (m5.into [(1,1),(2,2),(3,3)] (by decide) rfl)) ?_)
  rintro e ae ⟨rfl,ab⟩
  have ac:=m5.back ab [(1,1),(2,2),(3,3)] (by decide);clear ab m5
  have ad:=ac.oz [1,2,3]
  refine⟨_,rfl,?_⟩;intro Y U
  refine gz hK2 U (.not rfl .nil) fun Y U =>?_
  refine bc U 21 ?_ ?_
  ·
   intro aa U;try simp only [QQ,Qax] at aa
   have hle:(h.getD ((i+j) / 2) v0).1≤t:=by have:=aa;first|omega|(simp at this;omega)
   refine wct U ?_
   refine wp_region_lit ?_
   refine k9 U (.move rfl<|.add rfl rfl (r:=(((i+j) / 2+1:Nat):Int)) (by rw[IntWalk.i64_in _ (by omega)];omega)<|.assign rfl .nil) fun Y U =>?_
   refine wpList_nil ?_
   show ∃ n',n'<_∧_
   exact⟨j - ((i+j) / 2+1),by omega,(i+j) / 2+1,j,by omega,hj,rfl,fun q hq=>Rise.low hr (by omega) hle (by omega),hB,U.only [1,5,6],ad.only [1,2,3]⟩
  intro aa U;try simp only [QQ,Qax] at aa
  have hgt:t<(h.getD ((i+j) / 2) v0).1:=by have:=aa;first|omega|(simp at this;omega)
  refine wcf U ?_
  refine wp_region_lit ?_
  refine k9 U (.move rfl<|.assign rfl .nil) fun Y U =>?_
  refine wpList_nil ?_
  show ∃ n',n'<_∧_
  exact⟨(i+j) / 2 - i,by omega,i,(i+j) / 2,by omega,by omega,rfl,hA,fun q hq h9=>Rise.high hr h9 hgt hq,U.only [1,5,6],ad.only [1,2,3]⟩
 intro hb9 U;try simp only [QQ,Qax] at hb9
 have hge:i=j:=by have:=hb9;first|omega|(simp at this;omega)
 refine wcf U ?_
 refine wp_exit ?_
 refine hK0 _ _ ?_
 refine la U (.move rfl<|.assign rfl .nil) fun Y U =>?_
 refine rt1 U ?_
 revert U
 subst hge
 intro U
 rw[xu hA (fun h9=>hB i (Nat.le_refl _) h9) hj]
 exact⟨rfl,m5.only [1,2,3]⟩
theorem xv(X:Cx)(h:List Ver)(t:Int)(p:Option Addr)(c:Nat)(w0:World)(hl:h.length≤1000000)(hr:Rise h)(m0:MemOk X w0 [(1,.dat (.slice p h.length c) (.l 2 (h.map itD)))] w0) :
   Calls Tryz.prog 95 #[.slice p h.length c,.int .i64 t] w0 fun e w'=>e=.returned (.int .i64 (upN h t))∧MemOk X w0 [(1,.dat (.slice p h.length c) (.l 2 (h.map itD)))] w':=by
 refine mR Tryz.func95 rfl Tryz.ntmps95 fun Y U =>?_
 refine zsr fun K0 hK0 =>?_
 refine plz (ly U m0 20 rfl rfl rfl fun g1 Y w2 U m2 _ _ =>?_)
 refine plz (ly U m2 21 rfl rfl rfl fun g3 Y w4 U m4 _ _ =>?_)
 refine gz hK0 U (.assign rfl .nil) fun Y U =>?_
 refine zsr fun K1 hK1 =>?_
 refine k9 U (.lb m4 20 U94 rfl rfl rfl<|.len rfl U94<|.makeFunc rfl .nil) fun Y U =>?_
 refine plz (ecl U Tryz.func116 rfl (vR _ _ _ h t _ _ _ hl hr (m4.into [(1,20),(2,21),(3,1)] (by decide) rfl)) ?_)
 rintro e w12 ⟨rfl,hm12⟩
 have mx12:=m4.back hm12 [(20,1),(21,2),(1,3)] (by decide);clear hm12 m4
 have m12:=mx12.oz [20,21,1]
 refine⟨_,rfl,?_⟩;intro Y U
 refine gz hK1 U (.assign rfl .nil) fun Y U =>?_
 refine rt1 U ?_
 exact⟨rfl,m12.only [1]⟩
theorem qZ(X:Cx)(h:List Ver)(p:Option Addr)(c:Nat)(w0:World)(hl:h.length≤1000000)(hok:∀ v∈h,v.2.length≤1000000)(m0:MemOk X w0 [(1,.dat (.slice p h.length c) (.l 2 (h.map itD)))] w0) :
   Calls Tryz.prog 93 #[.slice p h.length c] w0 fun e w' => ∃ (p9:Option Addr) (c9:Nat),e=.returned (.slice p9 (h.map itD).length c9)∧MemOk X w0 [(1,.dat (.slice p h.length c) (.l 2 (h.map itD))),(9,.row (.slice p9 (h.map itD).length c9) 110 2 (h.map itD))] w':=by
 refine mp Tryz.func93 rfl Tryz.ntmps93 fun Y U =>?_
 refine la U (.assign rfl .nil) fun Y U =>?_
 refine la U (.assign rfl .nil) fun Y U =>?_
 refine wsk fun K0 hK0 =>?_
 refine la U (.move rfl<|.len rfl U94<|.move rfl .nil) fun Y U =>?_
 refine wp_block ?_
 refine wp_loop_ghost (fun g a w => ∃ (k:Nat) (p1:Option Addr) (c1:Nat),k≤h.length∧g=h.length - k∧Has 23 [(3,.slice p1 ((h.take k).map itD).length c1),(6,.slice p h.length c),(7,.int .i64 h.length),(8,.int .i64 k)] a∧MemOk X w0 [(1,.dat (.slice p h.length c) (.l 2 (h.map itD))),(9,.row (.slice p1 ((h.take k).map itD).length c1) 110 2 ((h.take k).map itD))] w) (h.length) ?_ ?_
 · have mz:=m0.nilR 9 110 2
   exact⟨0,_,_,Nat.zero_le _,rfl,U.only [3,6,7,8],mz.only [1,9]⟩
 clear U m0
 rintro g Y w6 ⟨k,p1,c1,hkl,hg,U,m6⟩
 refine la U (.lss rfl rfl .nil) fun Y U =>?_
 refine wsk fun K1 hK1 =>?_
 refine bc U 9 ?_ ?_
 ·
  intro hb8 U;try simp only [QQ,Qax] at hb8
  have hk:k<h.length:=by have:=hb8;first|omega|(simp at this;omega)
  obtain⟨⟨xs,xd⟩,hes⟩:∃ e,h[k]? = some e:=⟨_,List.getElem?_eq_getElem hk⟩
  have hed:=hok _ (List.mem_of_getElem? hes)
  dsimp only at hed
  refine wct U ?_
  refine zss (hK1 _ _ ?_)
  refine wsk fun K2 hK2 =>?_
  refine wp_block ?_
  refine zsr fun K3 hK3 =>?_
  obtain⟨az,aA,av,ae,ag,ah,ao⟩:=m6.openR (i:=1) rfl (k) (r:=[.v (.int .i64 xs),.ns .u8 xd]) (lm hes) 100 rfl
  revert U
  cases ae;clear m6 ah
  rcases ag with _|⟨ab,_|⟨aa,_|_⟩⟩
  obtain rfl:=ab.v_out
  clear ab
  obtain⟨aB,aC,ai,aw⟩:=aa.ns_shape;subst ai
  intro U
  have ap:=ao.dat 101 rfl (aa.cast (fun _ h=>(lf rfl h)));clear ao aa
  refine k9 U (.c rfl (fun _ h_=>li h_ rfl rfl U94 lN (k) rfl hk)<|.loadCR ap (i:=100) rfl rfl nf rfl lN .nil) fun Y U =>?_
  refine plz (lc U ap 102 oc rfl fun aD Y aE U ax _ _ =>?_)
  refine plz (stw U ax 102 lN fun aF ay _ =>?_)
  refine znl (hK3 _ _ ?_)
  have aj:=ay.oz [1,9,100,101,102]
  refine region_p 10 (B:=[(1,_),(100,_),(101,_),(102,_)]) (aj.to i4l) aj (by kernel_rfl) (fun aG ac ak =>?_);clear aj
  refine goR ac [0,1,2,3,4] [2,4] 5 0 31 U (ak.to i4l) (.move rfl<|.fa 0 rfl nf<|.lb hh 102 U2 rfl rfl rfl<|.fa 1 rfl nf<|.lb hh 102 U22 rfl rfl rfl .nil) fun Y U =>?_
  refine so 5 ?_
  refine nC U ak 103 rfl rfl (ak.nums (i:=101) rfl) U22 lJ (by decide) (by omega) rfl fun aH aI Y aJ U al =>?_
  refine⟨al.to i4l,?_⟩
  refine goA ac [6] 1 63 127 U (al.to i4l) (.build rfl oc vQ rfl (by dsimp only [l9,List.set] <;> rfl) .nil) fun Y U =>?_
  have aq:=al.freezeN 103 rfl
  refine so 7 ?_
  refine lq U aq 104 (mm:=2) rfl (.cons rfl rfl (.cons (.v _) (.cons (aq.rd (i:=103) rfl) .nil)) .nil) U94 mX rfl rfl rfl rfl rfl fun aK Y aL U ar =>?_
  refine⟨ar.to i4l,?_⟩
  have au:=ar.freezeR 104 rfl
  refine so 8 ?_
  refine lC U au 9 rfl rfl rfl (au.rd (i:=104) rfl) U94 mX rfl rfl (by decide) (by simp;omega) rfl fun aM aN Y aO U ad =>?_
  refine⟨ad.to i4l,?_⟩
  refine goA ac [9] 1 511 1023 U (ad.to i4l) (.assign rfl .nil) fun Y U =>?_
  refine wad ?_
  refine hK2 _ _ ?_
  replace U:=U.oz [3,6,7,8]
  refine wp_region_lit ?_
  refine k9 U (.inc (k+1)<|.move rfl .nil) fun Y U =>?_
  refine wpList_nil ?_
  show ∃ n',n'<_∧_
  have hE:(h.take k).map itD++[[D.v (.int .i64 xs),.ns .u8 xd]]=(h.take (k+1)).map itD:=by rw[ln hes,List.map_append];rfl
  rw[hE] at ad U
  exact⟨h.length - (k+1),by omega,k+1,_,_,by omega,rfl,U.only [3,6,7,8],ad.only [1,9]⟩
 intro hb8 U;try simp only [QQ,Qax] at hb8
 revert U
 obtain rfl:k=h.length:=by have:=hb8;first|omega|(simp at this;omega)
 intro U
 refine wcf U ?_
 refine wp_exit ?_
 refine hK0 _ _ ?_
 refine la U (.move rfl<|.assign rfl .nil) fun Y U =>?_
 refine rt1 U ?_
 rw[List.take_length] at m6
 rw[List.take_length]
 exact⟨_,_,rfl,m6.ren [(1,1),(9,9)] (by decide)⟩
end
end Go.Proofs.YteglmahnkfgelaaGreat.K
