/- General laws of walks. -/
import Derived.Test.YteglmahnkfgelaaGreatG4
namespace Go.Proofs.YteglmahnkfgelaaGreat.K
open Go.ChangeShapes Go.WideShapes Go.ChangeAt Go.RowKit
set_option linter.unusedVariables false
set_option linter.unusedSimpArgs false
set_option maxRecDepth 100000
set_option maxHeartbeats 4000000
set_option autoImplicit true
set_option relaxedAutoImplicit true
section
inductive Ch (P:Program) (n:Nat) (ops:Array Oper) (w:World):List Oper→List (Nat×Value)→List Oper→List (Nat×Value)→Prop
 | nil {L:List Oper} {T:List (Nat×Value)}:Ch P n ops w L T L T
 | c {d:Tmp} {op:Op} {v:Value} {L L':List Oper} {T T':List (Nat×Value)} {tt:TypeId} {pos:String} {af:Array Edge} (ht:Nat.blt d n=true) (hy:∀ a,Has n T a→Yl P a w ⟨some d,op,tt,pos,af,none⟩ v) (t:Ch P n ops w L ((d,v) :: T) L' T'):Ch P n ops w (⟨some d,op,tt,pos,af,none⟩ :: L) T L' T'
 | g {d:Tmp} {op:Op} {v:Value} {L L':List Oper} {T T':List (Nat×Value)} {tt:TypeId} {pos:String} {af:Array Edge} {j t:Nat} {b:Bool} (hj:(ops[j]?).bind (·.dst)=some t) (hb:lk T t=some (.bool b)) (ht2:Nat.blt t n=true) (ht:Nat.blt d n=true) (hy:∀ a,Has n T a→Yl P a w ⟨some d,op,tt,pos,af,some (j,b)⟩ v) (tl:Ch P n ops w L ((d,v) :: T) L' T'):Ch P n ops w (⟨some d,op,tt,pos,af,some (j,b)⟩ :: L) T L' T'
 | s {d:Tmp} {op:Op} {L L':List Oper} {T T':List (Nat×Value)} {tt:TypeId} {pos:String} {af:Array Edge} {j t:Nat} {b:Bool} (hj:(ops[j]?).bind (·.dst)=some t) (hb:lk T t=some (.bool !b)) (ht2:Nat.blt t n=true) (ht:Nat.blt d n=true) (tl:Ch P n ops w L ((d,undef) :: T) L' T'):Ch P n ops w (⟨some d,op,tt,pos,af,some (j,b)⟩ :: L) T L' T'
theorem k9{P:Program}{n:Nat}{ops:Array Oper}{w:World}{Q:Exit→Act→World→Prop}{L L':List Oper}{T T':List (Nat×Value)}{a:Act}(ha:Has n T a)(hc:Ch P n ops w L T L' T')(h:∀ a',Has n T' a'→wpList P ops Q L' a' w):wpList P ops Q L a w:=by
 induction hc generalizing a with
 | nil=>exact h a ha
 | c ht hy t ih=>exact AO ha ht (hy a ha) (fun a' ha'=>ih ha' h)
 | g hj hb ht2 ht hy t ih=>exact AP ha hj hb ht2 ht (hy a ha) (fun a' ha'=>ih ha' h)
 | s hj hb ht2 ht t ih=>exact xV ha hj hb ht2 ht (fun a' ha'=>ih ha' h)
theorem la{P:Program}{n id:Nat}{l:List Oper}{y:Code}{w:World}{Q:Exit→Act→World→Prop}{T T':List (Nat×Value)}{a:Act}(ha:Has n T a)(hc:Ch P n l.toArray w l T [] T')(h:∀ a',Has n T' a'→y.wp P Q a' w):((Code.region id l.toArray false).seq y).wp P Q a w:=
 wp_seq_k (fun K hK=>wp_region_lit (k9 ha hc (fun a' ha'=>wpList_nil (hK _ _ (h a' ha')))))
/-! short -/
section
variable {P:Program} {n:Nat} {ops:Array Oper} {L L':List Oper} {T T':List (Nat×Value)} {w w0:World} {X:Cx} {M:Mm} {dd:Tmp} {tt:TypeId} {pos:String} {af:Array Edge} {x y z:Operand} {k:IntKind} {p q r:Int} {t t2:TypeId}
theorem Ch.move{x:Operand}{v:Value}(hx:evT T x=some v)(tl:Ch P n ops w L ((dd,v) :: T) L' T')(ht:Nat.blt dd n=true:=by rfl):Ch P n ops w (⟨some dd,.move x,tt,pos,af,none⟩ :: L) T L' T':=.c ht (fun _ h=>t9 h hx) tl
theorem Ch.moveZ{x:Operand}{v:Value}(hx:evT T x=some v){j tg:Nat}{bb:Bool}(tl:Ch P n ops w L ((dd,v) :: T) L' T')(hj:(ops[j]?).bind (·.dst)=some tg:=by rfl)(hb:lk T tg=some (.bool bb):=by rfl)(ht2:Nat.blt tg n=true:=by rfl)(ht:Nat.blt dd n=true:=by rfl):Ch P n ops w (⟨some dd,.move x,tt,pos,af,some (j,bb)⟩ :: L) T L' T':=.g hj hb ht2 ht (fun _ h=>t9 h hx) tl
theorem Ch.assign{x:Operand}{v:Value}(hx:evT T x=some v)(tl:Ch P n ops w L ((dd,v) :: T) L' T')(ht:Nat.blt dd n=true:=by rfl):Ch P n ops w (⟨some dd,.assign x,tt,pos,af,none⟩ :: L) T L' T':=.c ht (fun _ h=>sA h hx) tl
theorem Ch.pickT{c x y:Operand}{v:Value}(hc:evT T c=some (.bool true))(hx:evT T x=some v)(tl:Ch P n ops w L ((dd,v) :: T) L' T')(ht:Nat.blt dd n=true:=by rfl):Ch P n ops w (⟨some dd,.pick c x y,tt,pos,af,none⟩ :: L) T L' T':=.c ht (fun _ h=>rG h hc hx) tl
theorem Ch.pickTZ{c x y:Operand}{v:Value}(hc:evT T c=some (.bool true))(hx:evT T x=some v){j tg:Nat}{bb:Bool}(tl:Ch P n ops w L ((dd,v) :: T) L' T')(hj:(ops[j]?).bind (·.dst)=some tg:=by rfl)(hb:lk T tg=some (.bool bb):=by rfl)(ht2:Nat.blt tg n=true:=by rfl)(ht:Nat.blt dd n=true:=by rfl):Ch P n ops w (⟨some dd,.pick c x y,tt,pos,af,some (j,bb)⟩ :: L) T L' T':=.g hj hb ht2 ht (fun _ h=>rG h hc hx) tl
theorem Ch.pickF{c x y:Operand}{v:Value}(hc:evT T c=some (.bool false))(hx:evT T y=some v)(tl:Ch P n ops w L ((dd,v) :: T) L' T')(ht:Nat.blt dd n=true:=by rfl):Ch P n ops w (⟨some dd,.pick c x y,tt,pos,af,none⟩ :: L) T L' T':=.c ht (fun _ h=>n0 h hc hx) tl
theorem Ch.pickFZ{c x y:Operand}{v:Value}(hc:evT T c=some (.bool false))(hx:evT T y=some v){j tg:Nat}{bb:Bool}(tl:Ch P n ops w L ((dd,v) :: T) L' T')(hj:(ops[j]?).bind (·.dst)=some tg:=by rfl)(hb:lk T tg=some (.bool bb):=by rfl)(ht2:Nat.blt tg n=true:=by rfl)(ht:Nat.blt dd n=true:=by rfl):Ch P n ops w (⟨some dd,.pick c x y,tt,pos,af,some (j,bb)⟩ :: L) T L' T':=.g hj hb ht2 ht (fun _ h=>n0 h hc hx) tl
theorem Ch.not{t:TypeId}{x:Operand}{b:Bool}(hx:evT T x=some (.bool b))(tl:Ch P n ops w L ((dd,(.bool !b)) :: T) L' T')(ht:Nat.blt dd n=true:=by rfl):Ch P n ops w (⟨some dd,.unOp .not t x,tt,pos,af,none⟩ :: L) T L' T':=.c ht (fun _ h=>xJ h hx) tl
theorem Ch.notZ{t:TypeId}{x:Operand}{b:Bool}(hx:evT T x=some (.bool b)){j tg:Nat}{bb:Bool}(tl:Ch P n ops w L ((dd,(.bool !b)) :: T) L' T')(hj:(ops[j]?).bind (·.dst)=some tg:=by rfl)(hb:lk T tg=some (.bool bb):=by rfl)(ht2:Nat.blt tg n=true:=by rfl)(ht:Nat.blt dd n=true:=by rfl):Ch P n ops w (⟨some dd,.unOp .not t x,tt,pos,af,some (j,bb)⟩ :: L) T L' T':=.g hj hb ht2 ht (fun _ h=>xJ h hx) tl
theorem Ch.len{t e:TypeId}{x:Operand}{p:Option Addr}{l c:Nat}(hx:evT T x=some (.slice p l c))(hu:P.underlying t=some (.slice e))(tl:Ch P n ops w L ((dd,(.int .i64 l)) :: T) L' T')(ht:Nat.blt dd n=true:=by rfl):Ch P n ops w (⟨some dd,.call { callee:=.builtin .len,args:=#[x],argTypes:=#[t] },tt,pos,af,none⟩ :: L) T L' T':=.c ht (fun _ h=>xK h hx hu) tl
theorem Ch.lenZ{t e:TypeId}{x:Operand}{p:Option Addr}{l c:Nat}(hx:evT T x=some (.slice p l c))(hu:P.underlying t=some (.slice e)){j tg:Nat}{bb:Bool}(tl:Ch P n ops w L ((dd,(.int .i64 l)) :: T) L' T')(hj:(ops[j]?).bind (·.dst)=some tg:=by rfl)(hb:lk T tg=some (.bool bb):=by rfl)(ht2:Nat.blt tg n=true:=by rfl)(ht:Nat.blt dd n=true:=by rfl):Ch P n ops w (⟨some dd,.call { callee:=.builtin .len,args:=#[x],argTypes:=#[t] },tt,pos,af,some (j,bb)⟩ :: L) T L' T':=.g hj hb ht2 ht (fun _ h=>xK h hx hu) tl
theorem Ch.add(hx:evT T x=some (.int k p))(hy:evT T y=some (.int k q))(hr:k.wrap (p+q)=r)(tl:Ch P n ops w L ((dd,(.int k r)) :: T) L' T')(ht:Nat.blt dd n=true:=by rfl):Ch P n ops w (⟨some dd,.binOp .add t x y t2,tt,pos,af,none⟩ :: L) T L' T':=.c ht (fun _ h=>xL h hx hy hr) tl
theorem Ch.addZ(hx:evT T x=some (.int k p))(hy:evT T y=some (.int k q))(hr:k.wrap (p+q)=r){j tg:Nat}{bb:Bool}(tl:Ch P n ops w L ((dd,(.int k r)) :: T) L' T')(hj:(ops[j]?).bind (·.dst)=some tg:=by rfl)(hb:lk T tg=some (.bool bb):=by rfl)(ht2:Nat.blt tg n=true:=by rfl)(ht:Nat.blt dd n=true:=by rfl):Ch P n ops w (⟨some dd,.binOp .add t x y t2,tt,pos,af,some (j,bb)⟩ :: L) T L' T':=.g hj hb ht2 ht (fun _ h=>xL h hx hy hr) tl
theorem Ch.sub(hx:evT T x=some (.int k p))(hy:evT T y=some (.int k q))(hr:k.wrap (p - q)=r)(tl:Ch P n ops w L ((dd,(.int k r)) :: T) L' T')(ht:Nat.blt dd n=true:=by rfl):Ch P n ops w (⟨some dd,.binOp .sub t x y t2,tt,pos,af,none⟩ :: L) T L' T':=.c ht (fun _ h=>xM h hx hy hr) tl
theorem Ch.subZ(hx:evT T x=some (.int k p))(hy:evT T y=some (.int k q))(hr:k.wrap (p - q)=r){j tg:Nat}{bb:Bool}(tl:Ch P n ops w L ((dd,(.int k r)) :: T) L' T')(hj:(ops[j]?).bind (·.dst)=some tg:=by rfl)(hb:lk T tg=some (.bool bb):=by rfl)(ht2:Nat.blt tg n=true:=by rfl)(ht:Nat.blt dd n=true:=by rfl):Ch P n ops w (⟨some dd,.binOp .sub t x y t2,tt,pos,af,some (j,bb)⟩ :: L) T L' T':=.g hj hb ht2 ht (fun _ h=>xM h hx hy hr) tl
theorem Ch.mul(hx:evT T x=some (.int k p))(hy:evT T y=some (.int k q))(hr:k.wrap (p*q)=r)(tl:Ch P n ops w L ((dd,(.int k r)) :: T) L' T')(ht:Nat.blt dd n=true:=by rfl):Ch P n ops w (⟨some dd,.binOp .mul t x y t2,tt,pos,af,none⟩ :: L) T L' T':=.c ht (fun _ h=>zg h hx hy hr) tl
theorem Ch.quo(hx:evT T x=some (.int k p))(hy:evT T y=some (.int k q))(h0:q≠0)(hr:k.wrap (p.tdiv q)=r)(tl:Ch P n ops w L ((dd,(.int k r)) :: T) L' T')(ht:Nat.blt dd n=true:=by rfl):Ch P n ops w (⟨some dd,.binOp .quo t x y t2,tt,pos,af,none⟩ :: L) T L' T':=.c ht (fun _ h=>zh h hx hy h0 hr) tl
theorem Ch.rem(hx:evT T x=some (.int k p))(hy:evT T y=some (.int k q))(h0:q≠0)(hr:p.tmod q=r)(tl:Ch P n ops w L ((dd,(.int k r)) :: T) L' T')(ht:Nat.blt dd n=true:=by rfl):Ch P n ops w (⟨some dd,.binOp .rem t x y t2,tt,pos,af,none⟩ :: L) T L' T':=.c ht (fun _ h=>xN h hx hy h0 hr) tl
theorem Ch.remZ(hx:evT T x=some (.int k p))(hy:evT T y=some (.int k q))(h0:q≠0)(hr:p.tmod q=r){j tg:Nat}{bb:Bool}(tl:Ch P n ops w L ((dd,(.int k r)) :: T) L' T')(hj:(ops[j]?).bind (·.dst)=some tg:=by rfl)(hb:lk T tg=some (.bool bb):=by rfl)(ht2:Nat.blt tg n=true:=by rfl)(ht:Nat.blt dd n=true:=by rfl):Ch P n ops w (⟨some dd,.binOp .rem t x y t2,tt,pos,af,some (j,bb)⟩ :: L) T L' T':=.g hj hb ht2 ht (fun _ h=>xN h hx hy h0 hr) tl
theorem Ch.and(hx:evT T x=some (.int k p))(hy:evT T y=some (.int k q))(hr:k.wrap (BitVec.ofInt k.bits p &&& BitVec.ofInt k.bits q).toNat=r)(tl:Ch P n ops w L ((dd,(.int k r)) :: T) L' T')(ht:Nat.blt dd n=true:=by rfl):Ch P n ops w (⟨some dd,.binOp .and t x y t2,tt,pos,af,none⟩ :: L) T L' T':=.c ht (fun _ h=>zi h hx hy hr) tl
theorem Ch.or(hx:evT T x=some (.int k p))(hy:evT T y=some (.int k q))(hr:k.wrap (BitVec.ofInt k.bits p ||| BitVec.ofInt k.bits q).toNat=r)(tl:Ch P n ops w L ((dd,(.int k r)) :: T) L' T')(ht:Nat.blt dd n=true:=by rfl):Ch P n ops w (⟨some dd,.binOp .or t x y t2,tt,pos,af,none⟩ :: L) T L' T':=.c ht (fun _ h=>AH h hx hy hr) tl
theorem Ch.shl{yk:IntKind}(hx:evT T x=some (.int k p))(hy:evT T y=some (.int yk q))(h0:0≤q)(hr:k.wrap (p*2 ^ min q.toNat k.bits)=r)(tl:Ch P n ops w L ((dd,(.int k r)) :: T) L' T')(ht:Nat.blt dd n=true:=by rfl):Ch P n ops w (⟨some dd,.binOp .shl t x y t2,tt,pos,af,none⟩ :: L) T L' T':=.c ht (fun _ h=>zj h hx hy h0 hr) tl
theorem Ch.shr{yk:IntKind}(hx:evT T x=some (.int k p))(hy:evT T y=some (.int yk q))(h0:0≤q)(hr:p.fdiv (2 ^ min q.toNat k.bits)=r)(tl:Ch P n ops w L ((dd,(.int k r)) :: T) L' T')(ht:Nat.blt dd n=true:=by rfl):Ch P n ops w (⟨some dd,.binOp .shr t x y t2,tt,pos,af,none⟩ :: L) T L' T':=.c ht (fun _ h=>zk h hx hy h0 hr) tl
theorem Ch.lss(hx:evT T x=some (.int k p))(hy:evT T y=some (.int k q))(tl:Ch P n ops w L ((dd,(.bool (decide (p<q)))) :: T) L' T')(ht:Nat.blt dd n=true:=by rfl):Ch P n ops w (⟨some dd,.binOp .lss t x y t2,tt,pos,af,none⟩ :: L) T L' T':=.c ht (fun _ h=>xO h hx hy) tl
theorem Ch.lssZ(hx:evT T x=some (.int k p))(hy:evT T y=some (.int k q)){j tg:Nat}{bb:Bool}(tl:Ch P n ops w L ((dd,(.bool (decide (p<q)))) :: T) L' T')(hj:(ops[j]?).bind (·.dst)=some tg:=by rfl)(hb:lk T tg=some (.bool bb):=by rfl)(ht2:Nat.blt tg n=true:=by rfl)(ht:Nat.blt dd n=true:=by rfl):Ch P n ops w (⟨some dd,.binOp .lss t x y t2,tt,pos,af,some (j,bb)⟩ :: L) T L' T':=.g hj hb ht2 ht (fun _ h=>xO h hx hy) tl
theorem Ch.leq(hx:evT T x=some (.int k p))(hy:evT T y=some (.int k q))(tl:Ch P n ops w L ((dd,(.bool (decide (p≤q)))) :: T) L' T')(ht:Nat.blt dd n=true:=by rfl):Ch P n ops w (⟨some dd,.binOp .leq t x y t2,tt,pos,af,none⟩ :: L) T L' T':=.c ht (fun _ h=>xP h hx hy) tl
theorem Ch.leqZ(hx:evT T x=some (.int k p))(hy:evT T y=some (.int k q)){j tg:Nat}{bb:Bool}(tl:Ch P n ops w L ((dd,(.bool (decide (p≤q)))) :: T) L' T')(hj:(ops[j]?).bind (·.dst)=some tg:=by rfl)(hb:lk T tg=some (.bool bb):=by rfl)(ht2:Nat.blt tg n=true:=by rfl)(ht:Nat.blt dd n=true:=by rfl):Ch P n ops w (⟨some dd,.binOp .leq t x y t2,tt,pos,af,some (j,bb)⟩ :: L) T L' T':=.g hj hb ht2 ht (fun _ h=>xP h hx hy) tl
theorem Ch.gtr(hx:evT T x=some (.int k p))(hy:evT T y=some (.int k q))(tl:Ch P n ops w L ((dd,(.bool (decide (q<p)))) :: T) L' T')(ht:Nat.blt dd n=true:=by rfl):Ch P n ops w (⟨some dd,.binOp .gtr t x y t2,tt,pos,af,none⟩ :: L) T L' T':=.c ht (fun _ h=>xQ h hx hy) tl
theorem Ch.gtrZ(hx:evT T x=some (.int k p))(hy:evT T y=some (.int k q)){j tg:Nat}{bb:Bool}(tl:Ch P n ops w L ((dd,(.bool (decide (q<p)))) :: T) L' T')(hj:(ops[j]?).bind (·.dst)=some tg:=by rfl)(hb:lk T tg=some (.bool bb):=by rfl)(ht2:Nat.blt tg n=true:=by rfl)(ht:Nat.blt dd n=true:=by rfl):Ch P n ops w (⟨some dd,.binOp .gtr t x y t2,tt,pos,af,some (j,bb)⟩ :: L) T L' T':=.g hj hb ht2 ht (fun _ h=>xQ h hx hy) tl
theorem Ch.geq(hx:evT T x=some (.int k p))(hy:evT T y=some (.int k q))(tl:Ch P n ops w L ((dd,(.bool (decide (q≤p)))) :: T) L' T')(ht:Nat.blt dd n=true:=by rfl):Ch P n ops w (⟨some dd,.binOp .geq t x y t2,tt,pos,af,none⟩ :: L) T L' T':=.c ht (fun _ h=>xR h hx hy) tl
theorem Ch.geqZ(hx:evT T x=some (.int k p))(hy:evT T y=some (.int k q)){j tg:Nat}{bb:Bool}(tl:Ch P n ops w L ((dd,(.bool (decide (q≤p)))) :: T) L' T')(hj:(ops[j]?).bind (·.dst)=some tg:=by rfl)(hb:lk T tg=some (.bool bb):=by rfl)(ht2:Nat.blt tg n=true:=by rfl)(ht:Nat.blt dd n=true:=by rfl):Ch P n ops w (⟨some dd,.binOp .geq t x y t2,tt,pos,af,some (j,bb)⟩ :: L) T L' T':=.g hj hb ht2 ht (fun _ h=>xR h hx hy) tl
theorem Ch.eql(hx:evT T x=some (.int k p))(hy:evT T y=some (.int k q))(tl:Ch P n ops w L ((dd,(.bool (decide (p=q)))) :: T) L' T')(ht:Nat.blt dd n=true:=by rfl):Ch P n ops w (⟨some dd,.binOp .eql t x y t2,tt,pos,af,none⟩ :: L) T L' T':=.c ht (fun _ h=>xS h hx hy) tl
theorem Ch.eqlZ(hx:evT T x=some (.int k p))(hy:evT T y=some (.int k q)){j tg:Nat}{bb:Bool}(tl:Ch P n ops w L ((dd,(.bool (decide (p=q)))) :: T) L' T')(hj:(ops[j]?).bind (·.dst)=some tg:=by rfl)(hb:lk T tg=some (.bool bb):=by rfl)(ht2:Nat.blt tg n=true:=by rfl)(ht:Nat.blt dd n=true:=by rfl):Ch P n ops w (⟨some dd,.binOp .eql t x y t2,tt,pos,af,some (j,bb)⟩ :: L) T L' T':=.g hj hb ht2 ht (fun _ h=>xS h hx hy) tl
theorem Ch.neq(hx:evT T x=some (.int k p))(hy:evT T y=some (.int k q))(tl:Ch P n ops w L ((dd,(.bool (decide (p≠q)))) :: T) L' T')(ht:Nat.blt dd n=true:=by rfl):Ch P n ops w (⟨some dd,.binOp .neq t x y t2,tt,pos,af,none⟩ :: L) T L' T':=.c ht (fun _ h=>xT h hx hy) tl
theorem Ch.neqZ(hx:evT T x=some (.int k p))(hy:evT T y=some (.int k q)){j tg:Nat}{bb:Bool}(tl:Ch P n ops w L ((dd,(.bool (decide (p≠q)))) :: T) L' T')(hj:(ops[j]?).bind (·.dst)=some tg:=by rfl)(hb:lk T tg=some (.bool bb):=by rfl)(ht2:Nat.blt tg n=true:=by rfl)(ht:Nat.blt dd n=true:=by rfl):Ch P n ops w (⟨some dd,.binOp .neq t x y t2,tt,pos,af,some (j,bb)⟩ :: L) T L' T':=.g hj hb ht2 ht (fun _ h=>xT h hx hy) tl
theorem Ch.neqB{b c:Bool}(hx:evT T x=some (.bool b))(hy:evT T y=some (.bool c))(hu:P.underlying t=some .bool)(tl:Ch P n ops w L ((dd,(.bool (!(b == c)))) :: T) L' T')(ht:Nat.blt dd n=true:=by rfl):Ch P n ops w (⟨some dd,.binOp .neq t x y t2,tt,pos,af,none⟩ :: L) T L' T':=.c ht (fun _ h=>wY h hx hy hu) tl
theorem Ch.eqlSZ{b c:ByteArray}(hx:evT T x=some (.string b))(hy:evT T y=some (.string c)){j tg:Nat}{bb:Bool}(tl:Ch P n ops w L ((dd,(.bool (b.toList == c.toList))) :: T) L' T')(hj:(ops[j]?).bind (·.dst)=some tg:=by rfl)(hb:lk T tg=some (.bool bb):=by rfl)(ht2:Nat.blt tg n=true:=by rfl)(ht:Nat.blt dd n=true:=by rfl):Ch P n ops w (⟨some dd,.binOp .eql t x y t2,tt,pos,af,some (j,bb)⟩ :: L) T L' T':=.g hj hb ht2 ht (fun _ h=>zl h hx hy) tl
theorem Ch.neqS{b c:ByteArray}(hx:evT T x=some (.string b))(hy:evT T y=some (.string c))(tl:Ch P n ops w L ((dd,(.bool (!(b.toList == c.toList)))) :: T) L' T')(ht:Nat.blt dd n=true:=by rfl):Ch P n ops w (⟨some dd,.binOp .neq t x y t2,tt,pos,af,none⟩ :: L) T L' T':=.c ht (fun _ h=>ua h hx hy) tl
theorem Ch.neqSZ{b c:ByteArray}(hx:evT T x=some (.string b))(hy:evT T y=some (.string c)){j tg:Nat}{bb:Bool}(tl:Ch P n ops w L ((dd,(.bool (!(b.toList == c.toList)))) :: T) L' T')(hj:(ops[j]?).bind (·.dst)=some tg:=by rfl)(hb:lk T tg=some (.bool bb):=by rfl)(ht2:Nat.blt tg n=true:=by rfl)(ht:Nat.blt dd n=true:=by rfl):Ch P n ops w (⟨some dd,.binOp .neq t x y t2,tt,pos,af,some (j,bb)⟩ :: L) T L' T':=.g hj hb ht2 ht (fun _ h=>ua h hx hy) tl
theorem Ch.eqlP{e:TypeId}{b:Option Addr}(hx:evT T x=some (.pointer b))(hy:evT T y=some (.pointer none))(hu:P.underlying t=some (.pointer e))(tl:Ch P n ops w L ((dd,(.bool b.isNone)) :: T) L' T')(ht:Nat.blt dd n=true:=by rfl):Ch P n ops w (⟨some dd,.binOp .eql t x y t2,tt,pos,af,none⟩ :: L) T L' T':=.c ht (fun _ h=>wZ h hx hy hu) tl
theorem Ch.conv{s e:TypeId}{k':IntKind}{ds:TypeDesc}(hx:evT T x=some (.int k p))(hs:P.underlying s=some ds)(hd:P.underlying e=some (.int k'))(hr:k'.wrap p=r)(tl:Ch P n ops w L ((dd,(.int k' r)) :: T) L' T')(ht:Nat.blt dd n=true:=by rfl):Ch P n ops w (⟨some dd,.convert s e x,tt,pos,af,none⟩ :: L) T L' T':=.c ht (fun _ h=>xe h hx hs hd hr) tl
theorem Ch.extract{x:Operand}{vs:Array Value}{i:Nat}{v:Value}(hx:evT T x=some (.tuple vs))(hv:rD vs.toList i=some v)(tl:Ch P n ops w L ((dd,v) :: T) L' T')(ht:Nat.blt dd n=true:=by rfl):Ch P n ops w (⟨some dd,.extract x i,tt,pos,af,none⟩ :: L) T L' T':=.c ht (fun _ h=>qP h hx hv) tl
theorem Ch.nilCheck{x:Operand}{p:Addr}(hx:evT T x=some (.pointer (some p)))(tl:Ch P n ops w L ((dd,(.pointer (some p))) :: T) L' T')(ht:Nat.blt dd n=true:=by rfl):Ch P n ops w (⟨some dd,.nilCheck x,tt,pos,af,none⟩ :: L) T L' T':=.c ht (fun _ h=>oL h hx) tl
theorem Ch.nilCheckZ{x:Operand}{p:Addr}(hx:evT T x=some (.pointer (some p))){j tg:Nat}{bb:Bool}(tl:Ch P n ops w L ((dd,(.pointer (some p))) :: T) L' T')(hj:(ops[j]?).bind (·.dst)=some tg:=by rfl)(hb:lk T tg=some (.bool bb):=by rfl)(ht2:Nat.blt tg n=true:=by rfl)(ht:Nat.blt dd n=true:=by rfl):Ch P n ops w (⟨some dd,.nilCheck x,tt,pos,af,some (j,bb)⟩ :: L) T L' T':=.g hj hb ht2 ht (fun _ h=>oL h hx) tl
theorem Ch.fieldAddr{t:TypeId}{x:Operand}{i g o:Nat}{fs:Array Field}{f:Field}{s off:Nat}(hx:evT T x=some (.pointer (some ⟨g,o,none⟩)))(hu:P.underlying t=some (.struct fs))(hf:fs[i]? = some f)(hs:(P.info? f.type).map (·.size)=some (s+1))(ho:o+f.offset=off)(tl:Ch P n ops w L ((dd,(.pointer (some ⟨g,off,none⟩))) :: T) L' T')(ht:Nat.blt dd n=true:=by rfl):Ch P n ops w (⟨some dd,.fieldAddr t x i,tt,pos,af,none⟩ :: L) T L' T':=.c ht (fun _ h=>mh h hx hu hf hs ho) tl
theorem Ch.fieldAddrZ{t:TypeId}{x:Operand}{i g o:Nat}{fs:Array Field}{f:Field}{s off:Nat}(hx:evT T x=some (.pointer (some ⟨g,o,none⟩)))(hu:P.underlying t=some (.struct fs))(hf:fs[i]? = some f)(hs:(P.info? f.type).map (·.size)=some (s+1))(ho:o+f.offset=off){j tg:Nat}{bb:Bool}(tl:Ch P n ops w L ((dd,(.pointer (some ⟨g,off,none⟩))) :: T) L' T')(hj:(ops[j]?).bind (·.dst)=some tg:=by rfl)(hb:lk T tg=some (.bool bb):=by rfl)(ht2:Nat.blt tg n=true:=by rfl)(ht:Nat.blt dd n=true:=by rfl):Ch P n ops w (⟨some dd,.fieldAddr t x i,tt,pos,af,some (j,bb)⟩ :: L) T L' T':=.g hj hb ht2 ht (fun _ h=>mh h hx hu hf hs ho) tl
theorem Ch.fieldAddrQ{t:TypeId}{x:Operand}{i g o:Nat}{fs:Array Field}{f:Field}{s:Nat}(q:Nat)(hx:evT T x=some (.pointer (some ⟨g,o,none⟩)))(hu:P.underlying t=some (.struct fs))(hf:fs[i]? = some f)(hs:(P.info? f.type).map (·.size)=some (s+1))(hq:f.offset=q)(tl:Ch P n ops w L ((dd,(.pointer (some ⟨g,o+q,none⟩))) :: T) L' T')(ht:Nat.blt dd n=true:=by rfl):Ch P n ops w (⟨some dd,.fieldAddr t x i,tt,pos,af,none⟩ :: L) T L' T':=.c ht (fun _ h=>nE h q hx hu hf hs hq) tl
theorem Ch.fieldAddrQZ{t:TypeId}{x:Operand}{i g o:Nat}{fs:Array Field}{f:Field}{s:Nat}(q:Nat)(hx:evT T x=some (.pointer (some ⟨g,o,none⟩)))(hu:P.underlying t=some (.struct fs))(hf:fs[i]? = some f)(hs:(P.info? f.type).map (·.size)=some (s+1))(hq:f.offset=q){j tg:Nat}{bb:Bool}(tl:Ch P n ops w L ((dd,(.pointer (some ⟨g,o+q,none⟩))) :: T) L' T')(hj:(ops[j]?).bind (·.dst)=some tg:=by rfl)(hb:lk T tg=some (.bool bb):=by rfl)(ht2:Nat.blt tg n=true:=by rfl)(ht:Nat.blt dd n=true:=by rfl):Ch P n ops w (⟨some dd,.fieldAddr t x i,tt,pos,af,some (j,bb)⟩ :: L) T L' T':=.g hj hb ht2 ht (fun _ h=>nE h q hx hu hf hs hq) tl
theorem Ch.build{t:TypeId}{parts:Array (Nat×Operand)}{z cs:List Value}{pl:List (Nat×Value)}(hp:K.evP T parts.toList=some pl)(hz:((P.info? t).bind (·.zero)).map (·.cells.toList)=some z)(hf:lR P t z=true)(h1:pl.all (fun p=>decide (p.1<z.length) && p.2.oneCell')=true)(hc:l9 z pl=cs)(tl:Ch P n ops w L ((dd,(.agg cs.toArray)) :: T) L' T')(ht:Nat.blt dd n=true:=by rfl):Ch P n ops w (⟨some dd,.build t parts,tt,pos,af,none⟩ :: L) T L' T':=.c ht (fun _ h=>uc h hp hz hf h1 hc) tl
theorem Ch.loadB1(m:MemOk X w0 M w){t:TypeId}{td:TypeDesc}{x:Operand}{i g o:Nat}{e:TypeId}{cs:List Value}{v:Value}(hm:lk M i=some (.box g e cs))(hx:evT T x=some (.pointer (some ⟨g,o,none⟩)))(hv:cs[o]? = some v)(hu:P.underlying t=some td)(hr:td.isRow=false)(tl:Ch P n ops w L ((dd,v) :: T) L' T')(ht:Nat.blt dd n=true:=by rfl):Ch P n ops w (⟨some dd,.load t x,tt,pos,af,none⟩ :: L) T L' T':=.c ht (fun _ h=>mH h m hm hx hv hu hr) tl
theorem Ch.loadB1Z(m:MemOk X w0 M w){t:TypeId}{td:TypeDesc}{x:Operand}{i g o:Nat}{e:TypeId}{cs:List Value}{v:Value}(hm:lk M i=some (.box g e cs))(hx:evT T x=some (.pointer (some ⟨g,o,none⟩)))(hv:cs[o]? = some v)(hu:P.underlying t=some td)(hr:td.isRow=false){j tg:Nat}{bb:Bool}(tl:Ch P n ops w L ((dd,v) :: T) L' T')(hj:(ops[j]?).bind (·.dst)=some tg:=by rfl)(hb:lk T tg=some (.bool bb):=by rfl)(ht2:Nat.blt tg n=true:=by rfl)(ht:Nat.blt dd n=true:=by rfl):Ch P n ops w (⟨some dd,.load t x,tt,pos,af,some (j,bb)⟩ :: L) T L' T':=.g hj hb ht2 ht (fun _ h=>mH h m hm hx hv hu hr) tl
theorem Ch.loadBR(m:MemOk X w0 M w){t:TypeId}{td:TypeDesc}{x:Operand}{i g o k:Nat}{e:TypeId}{cs vs:List Value}(hm:lk M i=some (.box g e cs))(hx:evT T x=some (.pointer (some ⟨g,o,none⟩)))(hu:P.underlying t=some td)(hr:td.isRow=true)(hs:(P.info? t).map (·.size)=some k)(hk:o+k≤cs.length)(hv:(cs.drop o).take k=vs)(tl:Ch P n ops w L ((dd,(.agg vs.toArray)) :: T) L' T')(ht:Nat.blt dd n=true:=by rfl):Ch P n ops w (⟨some dd,.load t x,tt,pos,af,none⟩ :: L) T L' T':=.c ht (fun _ h=>mI h m hm hx hu hr hs hk hv) tl
theorem Ch.loadBRZ(m:MemOk X w0 M w){t:TypeId}{td:TypeDesc}{x:Operand}{i g o k:Nat}{e:TypeId}{cs vs:List Value}(hm:lk M i=some (.box g e cs))(hx:evT T x=some (.pointer (some ⟨g,o,none⟩)))(hu:P.underlying t=some td)(hr:td.isRow=true)(hs:(P.info? t).map (·.size)=some k)(hk:o+k≤cs.length)(hv:(cs.drop o).take k=vs){j tg:Nat}{bb:Bool}(tl:Ch P n ops w L ((dd,(.agg vs.toArray)) :: T) L' T')(hj:(ops[j]?).bind (·.dst)=some tg:=by rfl)(hb:lk T tg=some (.bool bb):=by rfl)(ht2:Nat.blt tg n=true:=by rfl)(ht:Nat.blt dd n=true:=by rfl):Ch P n ops w (⟨some dd,.load t x,tt,pos,af,some (j,bb)⟩ :: L) T L' T':=.g hj hb ht2 ht (fun _ h=>mI h m hm hx hu hr hs hk hv) tl
theorem Ch.loadC1(m:MemOk X w0 M w){t:TypeId}{td:TypeDesc}{x:Operand}{i b o q:Nat}{vs:List Value}{v:Value}(hm:lk M i=some (.cel b o vs))(hx:evT T x=some (.pointer (some ⟨b,o+q,none⟩)))(hv:vs[q]? = some v)(hu:P.underlying t=some td)(hr:td.isRow=false)(tl:Ch P n ops w L ((dd,v) :: T) L' T')(ht:Nat.blt dd n=true:=by rfl):Ch P n ops w (⟨some dd,.load t x,tt,pos,af,none⟩ :: L) T L' T':=.c ht (fun _ h=>ql h m hm hx hv hu hr) tl
theorem Ch.loadC0(m:MemOk X w0 M w){t:TypeId}{td:TypeDesc}{x:Operand}{i b o:Nat}{vs:List Value}{v:Value}(hm:lk M i=some (.cel b o (v :: vs)))(hx:evT T x=some (.pointer (some ⟨b,o,none⟩)))(hu:P.underlying t=some td)(hr:td.isRow=false)(tl:Ch P n ops w L ((dd,v) :: T) L' T')(ht:Nat.blt dd n=true:=by rfl):Ch P n ops w (⟨some dd,.load t x,tt,pos,af,none⟩ :: L) T L' T':=.c ht (fun _ h=>qm h m hm hx hu hr) tl
theorem Ch.loadC0Z(m:MemOk X w0 M w){t:TypeId}{td:TypeDesc}{x:Operand}{i b o:Nat}{vs:List Value}{v:Value}(hm:lk M i=some (.cel b o (v :: vs)))(hx:evT T x=some (.pointer (some ⟨b,o,none⟩)))(hu:P.underlying t=some td)(hr:td.isRow=false){j tg:Nat}{bb:Bool}(tl:Ch P n ops w L ((dd,v) :: T) L' T')(hj:(ops[j]?).bind (·.dst)=some tg:=by rfl)(hb:lk T tg=some (.bool bb):=by rfl)(ht2:Nat.blt tg n=true:=by rfl)(ht:Nat.blt dd n=true:=by rfl):Ch P n ops w (⟨some dd,.load t x,tt,pos,af,some (j,bb)⟩ :: L) T L' T':=.g hj hb ht2 ht (fun _ h=>qm h m hm hx hu hr) tl
theorem Ch.loadCR(m:MemOk X w0 M w){t:TypeId}{td:TypeDesc}{x:Operand}{i b o:Nat}{vs:List Value}(hm:lk M i=some (.cel b o vs))(hx:evT T x=some (.pointer (some ⟨b,o,none⟩)))(hu:P.underlying t=some td)(hr:td.isRow=true)(hs:(P.info? t).map (·.size)=some vs.length)(tl:Ch P n ops w L ((dd,(.agg vs.toArray)) :: T) L' T')(ht:Nat.blt dd n=true:=by rfl):Ch P n ops w (⟨some dd,.load t x,tt,pos,af,none⟩ :: L) T L' T':=.c ht (fun _ h=>sC h m hm hx hu hr hs) tl
theorem Ch.str{s t e:TypeId}{x:Operand}{v:Value}{bs:List Int}(hx:evT T x=some v)(hv:IsNums .u8 w v bs)(hs:P.underlying s=some (.slice e))(he:P.underlying e=some (.int .u8))(hd:P.underlying t=some .string)(tl:Ch P n ops w L ((dd,(.string (strOfNums bs))) :: T) L' T')(ht:Nat.blt dd n=true:=by rfl):Ch P n ops w (⟨some dd,.convert s t x,tt,pos,af,none⟩ :: L) T L' T':=.c ht (fun _ h=>xX h hx hv hs he hd) tl
theorem Ch.strZ{s t e:TypeId}{x:Operand}{v:Value}{bs:List Int}(hx:evT T x=some v)(hv:IsNums .u8 w v bs)(hs:P.underlying s=some (.slice e))(he:P.underlying e=some (.int .u8))(hd:P.underlying t=some .string){j tg:Nat}{bb:Bool}(tl:Ch P n ops w L ((dd,(.string (strOfNums bs))) :: T) L' T')(hj:(ops[j]?).bind (·.dst)=some tg:=by rfl)(hb:lk T tg=some (.bool bb):=by rfl)(ht2:Nat.blt tg n=true:=by rfl)(ht:Nat.blt dd n=true:=by rfl):Ch P n ops w (⟨some dd,.convert s t x,tt,pos,af,some (j,bb)⟩ :: L) T L' T':=.g hj hb ht2 ht (fun _ h=>xX h hx hv hs he hd) tl
theorem Ch.loadAt{t:TypeId}{td:TypeDesc}{x:Operand}{b o:Nat}{vs:List Value}(hr:w.rangeAt b o vs)(hx:evT T x=some (.pointer (some ⟨b,o,none⟩)))(hu:P.underlying t=some td)(hd:td.isRow=true)(hs:(P.info? t).map (·.size)=some vs.length)(tl:Ch P n ops w L ((dd,(.agg vs.toArray)) :: T) L' T')(ht:Nat.blt dd n=true:=by rfl):Ch P n ops w (⟨some dd,.load t x,tt,pos,af,none⟩ :: L) T L' T':=.c ht (fun _ h=>sF h hr hx hu hd hs) tl
theorem Ch.loadAt1{t:TypeId}{td:TypeDesc}{x:Operand}{b o q q':Nat}{vs:List Value}{v:Value}(hr:w.rangeAt b o vs)(hx:evT T x=some (.pointer (some ⟨b,q',none⟩)))(hq:q'=o+q)(hv:rD vs q=some v)(hu:P.underlying t=some td)(hd:td.isRow=false)(tl:Ch P n ops w L ((dd,v) :: T) L' T')(ht:Nat.blt dd n=true:=by rfl):Ch P n ops w (⟨some dd,.load t x,tt,pos,af,none⟩ :: L) T L' T':=.c ht (fun _ h=>oo h hr hx hq hv hu hd) tl
theorem Ch.loadAt1Z{t:TypeId}{td:TypeDesc}{x:Operand}{b o q q':Nat}{vs:List Value}{v:Value}(hr:w.rangeAt b o vs)(hx:evT T x=some (.pointer (some ⟨b,q',none⟩)))(hq:q'=o+q)(hv:rD vs q=some v)(hu:P.underlying t=some td)(hd:td.isRow=false){j tg:Nat}{bb:Bool}(tl:Ch P n ops w L ((dd,v) :: T) L' T')(hj:(ops[j]?).bind (·.dst)=some tg:=by rfl)(hb:lk T tg=some (.bool bb):=by rfl)(ht2:Nat.blt tg n=true:=by rfl)(ht:Nat.blt dd n=true:=by rfl):Ch P n ops w (⟨some dd,.load t x,tt,pos,af,some (j,bb)⟩ :: L) T L' T':=.g hj hb ht2 ht (fun _ h=>oo h hr hx hq hv hu hd) tl
theorem Ch.cap{t e:TypeId}{x:Operand}{p:Option Addr}{l c:Nat}(hx:evT T x=some (.slice p l c))(hu:P.underlying t=some (.slice e))(tl:Ch P n ops w L ((dd,(.int .i64 c)) :: T) L' T')(ht:Nat.blt dd n=true:=by rfl):Ch P n ops w (⟨some dd,.call { callee:=.builtin .cap,args:=#[x],argTypes:=#[t] },tt,pos,af,none⟩ :: L) T L' T':=.c ht (fun _ h=>zf h hx hu) tl
theorem Ch.buildG{t:TypeId}{parts:Array (Nat×Operand)}{z cs:List Value}{pl:List (Nat×Value)}{ps:List (Nat×Nat)}(hp:K.evP T parts.toList=some pl)(hz:((P.info? t).bind (·.zero)).map (·.cells.toList)=some z)(hps:pj P t=some ps)(hc:xF z ps pl=some cs)(tl:Ch P n ops w L ((dd,(.agg cs.toArray)) :: T) L' T')(ht:Nat.blt dd n=true:=by rfl):Ch P n ops w (⟨some dd,.build t parts,tt,pos,af,none⟩ :: L) T L' T':=.c ht (fun _ h=>vz h hp hz hps hc) tl
theorem Ch.loadSVZ(m:MemOk X w0 M w){t:TypeId}{td:TypeDesc}{x:Operand}{i g o l c mm:Nat}{e:TypeId}{rows:List (List D)}(hm:lk M i=some (.seg (.slice (some ⟨g,o,none⟩) l c) e mm rows))(J:Nat){r:List D}(hr:rows[J]? = some r){q q':Nat}{v:Value}(hq:rD r q=some (.v v))(hx:evT T x=some (.pointer (some ⟨g,q',none⟩)))(hq':q'=o+J*mm+q)(hu:P.underlying t=some td)(hd:td.isRow=false){j tg:Nat}{bb:Bool}(tl:Ch P n ops w L ((dd,v) :: T) L' T')(hj:(ops[j]?).bind (·.dst)=some tg:=by rfl)(hb:lk T tg=some (.bool bb):=by rfl)(ht2:Nat.blt tg n=true:=by rfl)(ht:Nat.blt dd n=true:=by rfl):Ch P n ops w (⟨some dd,.load t x,tt,pos,af,some (j,bb)⟩ :: L) T L' T':=.g hj hb ht2 ht (fun _ h=>vA h m hm J hr hq hx hq' hu hd) tl
theorem Ch.makeFunc{f:FuncId}{caps:Array Operand}{vs:List Value}(hargs:evA T caps.toList=some vs)(tl:Ch P n ops w L ((dd,(.func (.func f) #[] vs.toArray)) :: T) L' T')(ht:Nat.blt dd n=true:=by rfl):Ch P n ops w (⟨some dd,.makeFunc (.func f) #[] caps,tt,pos,af,none⟩ :: L) T L' T':=.c ht (fun _ h=>ti h hargs) tl
theorem Ch.sk{op:Op}{j tg:Nat}{bb:Bool}(tl:Ch P n ops w L ((dd,undef) :: T) L' T')(hj:(ops[j]?).bind (·.dst)=some tg:=by rfl)(hb:lk T tg=some (.bool !bb):=by rfl)(ht2:Nat.blt tg n=true:=by rfl)(ht:Nat.blt dd n=true:=by rfl):Ch P n ops w (⟨some dd,op,tt,pos,af,some (j,bb)⟩ :: L) T L' T':=.s hj hb ht2 ht tl
end
/-! shorter -/
theorem znl{P:Program}{ops:Array Oper}{Q:Exit→Act→World→Prop}{a:Act}{w:World}(h:Q .normal a w):wpList P ops Q [] a w:=h
theorem zsr{P:Program}{id:Nat}{l:List Oper}{y:Code}{Q:Exit→Act→World→Prop}{a:Act}{w:World}(h:∀ K:Act→World→Prop,(∀ a w,y.wp P Q a w→K a w)→wpList P l.toArray (Exit.then K Q) l a w):((Code.region id l.toArray false).seq y).wp P Q a w:=wp_seq_k fun K hK=>wp_region_lit (h K hK)
theorem zss{P:Program}{Q:Exit→Act→World→Prop}{a:Act}{w:World}(h:Q .normal a w):Code.skip.wp P Q a w:=wp_skip h
theorem AS{P:Program}{f:FuncId}{fn:Func}{c:Code}{w:World}{R:Ending→World→Prop}{N:Nat}(hf:P.funcs[f]? = some fn)(hb:fn.body=some c)(hN:fn.ntmps=N)(h:∀ a,Has N [] a→c.wp P (bodyPost P fn R) a w)(hl:Nat.ble 0 N=true:=by rfl):Calls P f #[] w R:=enter hf hb hN hl h
theorem mp{P:Program}{f:FuncId}{fn:Func}{c:Code}{x0:Value}{w:World}{R:Ending→World→Prop}{N:Nat}(hf:P.funcs[f]? = some fn)(hb:fn.body=some c)(hN:fn.ntmps=N)(h:∀ a,Has N [(0,x0)] a→c.wp P (bodyPost P fn R) a w)(hl:Nat.ble 1 N=true:=by rfl):Calls P f #[x0] w R:=enter hf hb hN hl h
theorem mR{P:Program}{f:FuncId}{fn:Func}{c:Code}{x0 x1:Value}{w:World}{R:Ending→World→Prop}{N:Nat}(hf:P.funcs[f]? = some fn)(hb:fn.body=some c)(hN:fn.ntmps=N)(h:∀ a,Has N [(0,x0),(1,x1)] a→c.wp P (bodyPost P fn R) a w)(hl:Nat.ble 2 N=true:=by rfl):Calls P f #[x0,x1] w R:=enter hf hb hN hl h
theorem qr{P:Program}{f:FuncId}{fn:Func}{c:Code}{x0 x1 x2:Value}{w:World}{R:Ending→World→Prop}{N:Nat}(hf:P.funcs[f]? = some fn)(hb:fn.body=some c)(hN:fn.ntmps=N)(h:∀ a,Has N [(0,x0),(1,x1),(2,x2)] a→c.wp P (bodyPost P fn R) a w)(hl:Nat.ble 3 N=true:=by rfl):Calls P f #[x0,x1,x2] w R:=enter hf hb hN hl h
theorem AK{P:Program}{f:FuncId}{fn:Func}{c:Code}{x0 x1 x2 x3:Value}{w:World}{R:Ending→World→Prop}{N:Nat}(hf:P.funcs[f]? = some fn)(hb:fn.body=some c)(hN:fn.ntmps=N)(h:∀ a,Has N [(0,x0),(1,x1),(2,x2),(3,x3)] a→c.wp P (bodyPost P fn R) a w)(hl:Nat.ble 4 N=true:=by rfl):Calls P f #[x0,x1,x2,x3] w R:=enter hf hb hN hl h
theorem AT{P:Program}{f:FuncId}{fn:Func}{c:Code}{x0 x1 x2 x3 x4:Value}{w:World}{R:Ending→World→Prop}{N:Nat}(hf:P.funcs[f]? = some fn)(hb:fn.body=some c)(hN:fn.ntmps=N)(h:∀ a,Has N [(0,x0),(1,x1),(2,x2),(3,x3),(4,x4)] a→c.wp P (bodyPost P fn R) a w)(hl:Nat.ble 5 N=true:=by rfl):Calls P f #[x0,x1,x2,x3,x4] w R:=enter hf hb hN hl h
theorem AL{P:Program}{f:FuncId}{fn:Func}{c:Code}{x0 x1 x2 x3 x4 x5:Value}{w:World}{R:Ending→World→Prop}{N:Nat}(hf:P.funcs[f]? = some fn)(hb:fn.body=some c)(hN:fn.ntmps=N)(h:∀ a,Has N [(0,x0),(1,x1),(2,x2),(3,x3),(4,x4),(5,x5)] a→c.wp P (bodyPost P fn R) a w)(hl:Nat.ble 6 N=true:=by rfl):Calls P f #[x0,x1,x2,x3,x4,x5] w R:=enter hf hb hN hl h
theorem AU{P:Program}{f:FuncId}{fn:Func}{c:Code}{x0 x1 x2 x3 x4 x5 x6:Value}{w:World}{R:Ending→World→Prop}{N:Nat}(hf:P.funcs[f]? = some fn)(hb:fn.body=some c)(hN:fn.ntmps=N)(h:∀ a,Has N [(0,x0),(1,x1),(2,x2),(3,x3),(4,x4),(5,x5),(6,x6)] a→c.wp P (bodyPost P fn R) a w)(hl:Nat.ble 7 N=true:=by rfl):Calls P f #[x0,x1,x2,x3,x4,x5,x6] w R:=enter hf hb hN hl h
section
variable {P:Program} {n:Nat} {ops:Array Oper} {L L':List Oper} {T T':List (Nat×Value)} {w w0:World} {X:Cx} {M:Mm} {dd:Tmp} {tt:TypeId} {pos:String} {af:Array Edge}
theorem Ch.fa{t:TypeId}{x:Operand}{i g o:Nat}{fs:Array Field}{f:Field}(off:Nat)(hx:evT T x=some (.pointer (some ⟨g,o,none⟩)))(hu:P.underlying t=some (.struct fs))(tl:Ch P n ops w L ((dd,(.pointer (some ⟨g,off,none⟩))) :: T) L' T')(hf:fs[i]? = some f:=by rfl)(hs:(P.info? f.type).map (·.size)=some (0+1):=by kernel_rfl)(ho:o+f.offset=off:=by rfl)(ht:Nat.blt dd n=true:=by rfl):Ch P n ops w (⟨some dd,.fieldAddr t x i,tt,pos,af,none⟩ :: L) T L' T':=.c ht (fun _ h=>mh h hx hu hf hs ho) tl
theorem Ch.faZ{t:TypeId}{x:Operand}{i g o:Nat}{fs:Array Field}{f:Field}(off:Nat)(hx:evT T x=some (.pointer (some ⟨g,o,none⟩)))(hu:P.underlying t=some (.struct fs)){j tg:Nat}{bb:Bool}(tl:Ch P n ops w L ((dd,(.pointer (some ⟨g,off,none⟩))) :: T) L' T')(hf:fs[i]? = some f:=by rfl)(hs:(P.info? f.type).map (·.size)=some (0+1):=by kernel_rfl)(ho:o+f.offset=off:=by rfl)(hj:(ops[j]?).bind (·.dst)=some tg:=by rfl)(hb:lk T tg=some (.bool bb):=by rfl)(ht2:Nat.blt tg n=true:=by rfl)(ht:Nat.blt dd n=true:=by rfl):Ch P n ops w (⟨some dd,.fieldAddr t x i,tt,pos,af,some (j,bb)⟩ :: L) T L' T':=.g hj hb ht2 ht (fun _ h=>mh h hx hu hf hs ho) tl
theorem Ch.lb(m:MemOk X w0 M w)(i:Nat){t:TypeId}{td:TypeDesc}{x:Operand}{g o:Nat}{e:TypeId}{cs:List Value}{v:Value}(hu:P.underlying t=some td)(hx:evT T x=some (.pointer (some ⟨g,o,none⟩)))(hm:lk M i=some (.box g e cs))(hv:cs[o]? = some v)(tl:Ch P n ops w L ((dd,v) :: T) L' T')(hr:td.isRow=false:=by rfl)(ht:Nat.blt dd n=true:=by rfl):Ch P n ops w (⟨some dd,.load t x,tt,pos,af,none⟩ :: L) T L' T':=.c ht (fun _ h=>mH h m hm hx hv hu hr) tl
end
theorem U2:type_of% Tryz.underlying2:=Tryz.underlying2
theorem U3:type_of% Tryz.underlying3:=Tryz.underlying3
theorem U4:type_of% Tryz.underlying4:=Tryz.underlying4
theorem U5:type_of% Tryz.underlying5:=Tryz.underlying5
theorem U9:type_of% Tryz.underlying9:=Tryz.underlying9
theorem U22:type_of% Tryz.underlying22:=Tryz.underlying22
theorem U23:type_of% Tryz.underlying23:=Tryz.underlying23
theorem U25:type_of% Tryz.underlying25:=Tryz.underlying25
theorem U28:type_of% Tryz.underlying28:=Tryz.underlying28
theorem U30:type_of% Tryz.underlying30:=Tryz.underlying30
theorem U31:type_of% Tryz.underlying31:=Tryz.underlying31
theorem U32:type_of% Tryz.underlying32:=Tryz.underlying32
theorem U34:type_of% Tryz.underlying34:=Tryz.underlying34
theorem U37:type_of% Tryz.underlying37:=Tryz.underlying37
theorem U39:type_of% Tryz.underlying39:=Tryz.underlying39
theorem U42:type_of% Tryz.underlying42:=Tryz.underlying42
theorem U43:type_of% Tryz.underlying43:=Tryz.underlying43
theorem U59:type_of% Tryz.underlying59:=Tryz.underlying59
theorem U62:type_of% Tryz.underlying62:=Tryz.underlying62
theorem U66:type_of% Tryz.underlying66:=Tryz.underlying66
theorem U78:type_of% Tryz.underlying78:=Tryz.underlying78
theorem U88:type_of% Tryz.underlying88:=Tryz.underlying88
theorem U94:type_of% Tryz.underlying94:=Tryz.underlying94
theorem nb:type_of% Tryz.underlying101:=Tryz.underlying101
theorem nf:type_of% Tryz.underlying110:=Tryz.underlying110
theorem pP:type_of% Tryz.underlying113:=Tryz.underlying113
theorem rA:type_of% Tryz.underlying115:=Tryz.underlying115
theorem nz:type_of% Tryz.underlying118:=Tryz.underlying118
theorem ud:type_of% Tryz.underlying120:=Tryz.underlying120
theorem lx:type_of% Tryz.underlying125:=Tryz.underlying125
theorem rB:type_of% Tryz.underlying128:=Tryz.underlying128
theorem AV:type_of% Tryz.underlying136:=Tryz.underlying136
theorem tZ:type_of% Tryz.underlying163:=Tryz.underlying163
theorem AM:type_of% Tryz.underlying164:=Tryz.underlying164
theorem ov:(Tryz.prog.info? 3).map (fun i=>(i.zero,i.size,i.bytes))=some (some (.int .i64 0),1,8):=by kernel_rfl
theorem lF:(Tryz.prog.info? 25).map (·.size)=some 8:=by kernel_rfl
theorem lH:(Tryz.prog.info? 39).map (·.size)=some 7:=by kernel_rfl
theorem oV:((Tryz.prog.info? 39).bind (·.zero)).map (·.cells.toList)=some [.int .i64 0,.int .i64 0,.int .i64 0,.int .i64 0,.int .i64 0,.int .i64 0,.slice none 0 0]:=by kernel_rfl
theorem xf:(Tryz.prog.info? 88).map (·.size)=some 4:=by kernel_rfl
theorem xg:((Tryz.prog.info? 88).bind (·.zero)).map (·.cells.toList)=some [.int .i64 0,.int .i64 0,.int .i64 0,.int .i64 0]:=by kernel_rfl
theorem ue:(Tryz.prog.info? 94).map (fun i=>(i.zero,i.size,i.bytes))=some (some (.slice none 0 0),1,24):=by kernel_rfl
theorem x8:(Tryz.prog.info? 37).map (·.size)=some 1:=by kernel_rfl
theorem nV:(Tryz.prog.info? 30).map (·.size)=some 2:=by kernel_rfl
theorem rJ:((Tryz.prog.info? 30).bind (·.zero)).map (·.cells.toList)=some [.int .i64 0,.slice none 0 0]:=by kernel_rfl
theorem lN:(Tryz.prog.info? 110).map (·.size)=some 2:=by kernel_rfl
theorem oc:((Tryz.prog.info? 110).bind (·.zero)).map (·.cells.toList)=some [.int .i64 0,.slice none 0 0]:=by kernel_rfl
theorem mJ:(Tryz.prog.info? 94).map (·.size)=some 1:=by kernel_rfl
theorem lJ:(Tryz.prog.info? 5).map (fun i=>(i.zero,i.size,i.bytes))=some (some (.int .u8 0),1,1):=by kernel_rfl
theorem lS:(Tryz.prog.info? 2).map (fun i=>(i.zero,i.size,i.bytes))=some (some (.int .i64 0),1,8):=by kernel_rfl
theorem zn:(Tryz.prog.info? 101).map (·.size)=some 1:=by kernel_rfl
theorem qS:(Tryz.prog.info? 101).map (fun i=>(i.zero,i.size,i.bytes))=some (some (.int .u64 0),1,8):=by kernel_rfl
theorem l3:(Tryz.prog.info? 2).map (·.size)=some 1:=by kernel_rfl
theorem lX:(Tryz.prog.info? 78).map (·.size)=some 2:=by kernel_rfl
theorem oM:(Tryz.prog.info? 30).map (fun i=>(i.zero,i.size,i.bytes))=some (some (.agg #[.int .i64 0,.slice none 0 0]),2,32):=by kernel_rfl
theorem ow:(Tryz.prog.info? 78).map (fun i=>(i.zero,i.size,i.bytes))=some (some (.agg #[.int .i64 0,.slice none 0 0]),2,32):=by kernel_rfl
theorem mL:((Tryz.prog.info? 25).bind (·.zero)).map (·.cells.toList)=some [.int .i64 0,.int .i64 0,.int .i64 0,.int .i64 0,.int .i64 0,.int .i64 0,.int .i64 0,.slice none 0 0]:=by kernel_rfl
theorem pz:((Tryz.prog.info? 78).bind (·.zero)).map (·.cells.toList)=some [.int .i64 0,.slice none 0 0]:=by kernel_rfl
theorem Ah:(Tryz.prog.info? 136).map (·.size)=some 1:=by kernel_rfl
theorem Ai:((Tryz.prog.info? 136).bind (·.zero)).map (·.cells.toList)=some [.nilFunc]:=by kernel_rfl
theorem mW:(Tryz.prog.info? 5).map (·.size)=some 1:=by kernel_rfl
theorem oN:(Tryz.prog.info? 22).map (·.size)=some 1:=by kernel_rfl
theorem uf:(Tryz.prog.info? 23).map (·.size)=some 1:=by kernel_rfl
theorem ld:(Tryz.prog.info? 34).map (·.size)=some 11:=by kernel_rfl
theorem mo:((Tryz.prog.info? 34).bind (·.zero)).map (·.cells.toList)=some [.int .i64 0,.int .i64 0,.int .i64 0,.int .i64 0,.slice none 0 0,.int .i64 0,.int .i64 0,.bool false,.int .i64 0,.slice none 0 0,.slice none 0 0]:=by kernel_rfl
theorem lY:(Tryz.prog.info? 125).map (·.size)=some 10:=by kernel_rfl
theorem lZ:(Tryz.prog.info? 128).map (·.size)=some 5:=by kernel_rfl
theorem mM:((Tryz.prog.info? 128).bind (·.zero)).map (·.cells.toList)=some [.int .i64 0,.int .i64 0,.int .i64 0,.int .i64 0,.slice none 0 0]:=by kernel_rfl
theorem ma:(Tryz.prog.info? 3).map (·.size)=some 1:=by kernel_rfl
theorem rK:(Tryz.prog.info? 28).map (·.size)=some 1:=by kernel_rfl
theorem ox:((Tryz.prog.info? 125).bind (·.zero)).map (·.cells.toList)=some [.int .i64 0,.int .i64 0,.int .i64 0,.int .i64 0,.int .i64 0,.slice none 0 0,.int .i64 0,.int .i64 0,.int .i64 0,.slice none 0 0]:=by kernel_rfl
theorem mG:(Tryz.prog.info? 22).map (fun i=>(i.zero,i.size,i.bytes))=some (some (.slice none 0 0),1,24):=by kernel_rfl
theorem Aj:((Tryz.prog.info? 113).bind (·.zero)).map (·.cells.toList)=some [.slice none 0 0,.int .i64 0]:=by kernel_rfl
theorem Ak:((Tryz.prog.info? 115).bind (·.zero)).map (·.cells.toList)=some [.slice none 0 0,.int .i64 0]:=by kernel_rfl
theorem Al:(Tryz.prog.info? 4).map (·.size)=some 1:=by kernel_rfl
theorem ug:(Tryz.prog.info? 32).map (·.size)=some 1:=by kernel_rfl
theorem Am:(Tryz.prog.info? 43).map (·.size)=some 1:=by kernel_rfl
theorem mX:(Tryz.prog.info? 110).map (fun i=>(i.zero,i.size,i.bytes))=some (some (.agg #[.int .i64 0,.slice none 0 0]),2,32):=by kernel_rfl
theorem An:(Tryz.prog.info? 25).map (fun i=>(i.zero,i.size,i.bytes))=some (some (.agg #[.int .i64 0,.int .i64 0,.int .i64 0,.int .i64 0,.int .i64 0,.int .i64 0,.int .i64 0,.slice none 0 0]),8,80):=by kernel_rfl
theorem nH:(Tryz.prog.info? 34).map (fun i=>(i.zero,i.size,i.bytes))=some (some (.agg #[.int .i64 0,.int .i64 0,.int .i64 0,.int .i64 0,.slice none 0 0,.int .i64 0,.int .i64 0,.bool false,.int .i64 0,.slice none 0 0,.slice none 0 0]),11,136):=by kernel_rfl
theorem uh:(Tryz.prog.info? 118).map (·.size)=some 1:=by kernel_rfl
theorem Ao:((Tryz.prog.info? 120).bind (·.zero)).map (·.cells.toList)=some [.slice none 0 0]:=by kernel_rfl
theorem zo:(Tryz.prog.info? 31).map (·.size)=some 1:=by kernel_rfl
theorem Ap:((Tryz.prog.info? 66).bind (·.zero)).map (·.cells.toList)=some [.slice none 0 0,.int .i64 0]:=by kernel_rfl
/-! shorter still -/
section
variable {P:Program} {ops:Array Oper} {Q:Exit→Act→World→Prop} {rest:List Oper} {a:Act} {w:World} {o:Oper} {n:Nat} {T:List (Nat×Value)}
theorem plz(h:Oper.wp P o a w (wpList P ops Q rest) Q)(hg:o.guard=none:=by rfl):wpList P ops Q (o :: rest) a w:=wpList_plain hg fun K hK=>Oper.wp_mono hK h
theorem stz(ha:Has n T a){j t:Nat}{b:Bool}(h:Oper.wp P o a w (wpList P ops Q rest) Q)(hg:o.guard=some (j,b):=by rfl)(hj:(ops[j]?).bind (·.dst)=some t:=by rfl)(hb:lk T t=some (.bool b):=by rfl)(ht2:Nat.blt t n=true:=by rfl):wpList P ops Q (o :: rest) a w:=Ag ha hg hj hb ht2 fun K hK=>Oper.wp_mono hK h
theorem rtd{fn:Func}{R:Ending→World→Prop}(h:bodyPost P fn R .ret a w)(hQ:Q .ret a w=bodyPost P fn R .ret a w:=by((try dsimp only [Exit.then,Exit.inBlock]) <;> rfl)):Code.ret.wp P Q a w:=wp_ret (hQ ▸ h)
theorem wct{x y:Code}{t:Tmp}(ha:Has n T a)(h:x.wp P Q a w)(hc:lk T t=some (.bool true):=by rfl):(Code.cond (.tmp t) x y).wp P Q a w:=wp_cond_true (ha.ev (x:=.tmp t) hc) h
theorem wcf{x y:Code}{t:Tmp}(ha:Has n T a)(h:y.wp P Q a w)(hc:lk T t=some (.bool false):=by rfl):(Code.cond (.tmp t) x y).wp P Q a w:=wp_cond_false (ha.ev (x:=.tmp t) hc) h
theorem wsk:type_of% @wp_seq_k:=@wp_seq_k
inductive KP {α:Type} (T:List (Nat×α)):List Nat→List (Nat×α)→Prop
  | nil:KP T [] []
  | cons {t:Nat} {v:α} {l:List Nat} {T':List (Nat×α)} (h:lk T t=some v) (k:KP T l T'):KP T (t :: l) ((t,v) :: T')
theorem KP.lk{α:Type}{T T':List (Nat×α)}{l:List Nat}(k:KP T l T'):∀ t v,K.lk T' t=some v→K.lk T t=some v:=by
  induction k with
  | nil=>intro t v h;cases h
  | cons h k ih =>
    intro t v hh
    rw[lT] at hh
    split at hh
    · rename_i e;subst e;rw[← hh];exact h
    · exact ih t v hh
theorem Has.oz(h:Has n T a)(l:List Nat){T':List (Nat×Value)}(k:KP T l T':=by repeat (first|exact KP.nil|(apply KP.cons;rfl))):Has n T' a:=h.sub k.lk
theorem MemOk.oz{X:Cx}{w0:World}{M:Mm}(m:MemOk X w0 M w)(l:List Nat){M':Mm}(k:KP M l M':=by repeat (first|exact KP.nil|(apply KP.cons;rfl))):MemOk X w0 M' w:=m.sub k.lk
theorem gz{G K:Act→World→Prop}{L:List Oper}{T':List (Nat×Value)}(hK:∀ a w,G a w→K a w)(ha:Has n T a)(hc:Ch P n ops w L T [] T')(h:∀ a',Has n T' a'→G a' w)(hQ:∀ a,K a w→Q .normal a w:=by exact fun _ h=>h):wpList P ops Q L a w:=k9 ha hc fun a' ha'=>hQ _ (hK _ _ (h a' ha'))
theorem rt1(ha:Has n T a){fn:Func}{t:Tmp}{v:Value}{R:Ending→World→Prop}(h:R (.returned v) w)(hQ:Q .ret a w=bodyPost P fn R .ret a w:=by((try dsimp only [Exit.then,Exit.inBlock]) <;> rfl))(hr:fn.results=#[.tmp t]:=by rfl)(hv:lk T t=some v:=by rfl):Code.ret.wp P Q a w:=rtd (AQ ha hr hv h) hQ
theorem rt2(ha:Has n T a){fn:Func}{t s:Tmp}{v u:Value}{R:Ending→World→Prop}(h:R (.returned (.tuple #[v,u])) w)(hQ:Q .ret a w=bodyPost P fn R .ret a w:=by((try dsimp only [Exit.then,Exit.inBlock]) <;> rfl))(hr:fn.results=#[.tmp t,.tmp s]:=by rfl)(hv:lk T t=some v:=by rfl)(hu:lk T s=some u:=by rfl):Code.ret.wp P Q a w:=rtd (AR ha hr hv hu h) hQ
theorem stw(ha:Has n T a){X:Cx}{w0:World}{M:Mm}(m:MemOk X w0 M w)(i:Nat){g k:Nat}{t e:TypeId}{x y:Operand}{cs xs:List Value}{K:Act→World→Prop}{tt:TypeId}{pos:String}{af:Array Edge}{gd:Option (Nat×Bool)}(hs:(P.info? t).map (·.size)=some k)(h:∀ w',MemOk X w0 ((i,.box g e xs) :: M) w'→Keep (fun b=>b=g) w w'→K a w')(hm:lk M i=some (.box g e cs):=by rfl)(hx:evT T x=some (.pointer (some ⟨g,0,none⟩)):=by rfl)(hy:evT T y=some (.agg xs.toArray):=by rfl)(h1:xs.all (fun v=>v.oneCell')=true:=by rfl)(hl:xs.length=cs.length:=by rfl)(hk:k=xs.length:=by rfl):Oper.wp P ⟨none,.store t x y,tt,pos,af,gd⟩ a w K Q:=vF ha m i hm hx hy h1 hl (hk ▸ hs) h
theorem st1(ha:Has n T a){X:Cx}{w0:World}{M:Mm}(m:MemOk X w0 M w)(i:Nat){g o:Nat}{t e:TypeId}{x y:Operand}{cs cs':List Value}{v:Value}{K:Act→World→Prop}{tt:TypeId}{pos:String}{af:Array Edge}{gd:Option (Nat×Bool)}(hs:(P.info? t).map (·.size)=some 1)(h:∀ w',MemOk X w0 ((i,.box g e cs') :: M) w'→Keep (fun b=>b=g) w w'→K a w')(hm:lk M i=some (.box g e cs):=by rfl)(hx:evT T x=some (.pointer (some ⟨g,o,none⟩)):=by rfl)(hy:evT T y=some v:=by rfl)(h1:v.oneCell'=true:=by rfl)(ho:Nat.blt o cs.length=true:=by rfl)(hc:cs.set o v=cs':=by(dsimp only [List.set] <;> rfl)):Oper.wp P ⟨none,.store t x y,tt,pos,af,gd⟩ a w K Q:=vD ha m i hm hx hy h1 ho hs hc h
theorem Ch.inc{L L':List Oper}{T':List (Nat×Value)}{dd:Tmp}{tt t t2:TypeId}{pos:String}{af:Array Edge}{x y:Operand}{p q:Int}(r:Nat)(tl:Ch P n ops w L ((dd,(.int .i64 (r:Int))) :: T) L' T')(hx:evT T x=some (.int .i64 p):=by rfl)(hy:evT T y=some (.int .i64 q):=by rfl)(hr:IntKind.i64.wrap (p+q)=(r:Int):=by(rw[IntWalk.i64_in _ (by omega)];omega))(ht:Nat.blt dd n=true:=by rfl):Ch P n ops w (⟨some dd,.binOp .add t x y t2,tt,pos,af,none⟩ :: L) T L' T':=.add hx hy hr tl ht
theorem bc{G:Prop}(h:Has n T a)(t:Nat){b:Bool}(ht:b=true→Has n ((t,.bool true) :: T) a→G)(hf:b=false→Has n ((t,.bool false) :: T) a→G)(hb:lk T t=some (.bool b):=by rfl):G:=tm h hb ht hf
theorem bcF{G:Prop}(h:Has n T a)(t:Nat){b:Bool}(hf:Has n ((t,.bool false) :: T) a→G)(hb:lk T t=some (.bool b):=by rfl)(hn:¬ b=true:=by simp):G:=bc h t (fun hb9 _=>absurd hb9 hn) (fun _ h9=>hf h9) hb
theorem bcO{G:Prop}(h:Has n T a)(t:Nat){b:Bool}(hf:Has n ((t,.bool false) :: T) a→G)(hb:lk T t=some (.bool b):=by rfl)(hn:¬ b=true:=by simp;omega):G:=bc h t (fun hb9 _=>absurd hb9 hn) (fun _ h9=>hf h9) hb
theorem bcP{G:Prop}(h:Has n T a)(t:Nat){b:Bool}(hf:Has n ((t,.bool true) :: T) a→G)(hb:lk T t=some (.bool b):=by rfl)(hn:¬ b=false:=by simp;omega):G:=bc h t (fun _ h9=>hf h9) (fun hb9 _=>absurd hb9 hn) hb
theorem bcT{G:Prop}(h:Has n T a)(t:Nat){b:Bool}(hf:Has n ((t,.bool true) :: T) a→G)(hb:lk T t=some (.bool b):=by rfl)(hn:¬ b=false:=by simp):G:=bc h t (fun _ h9=>hf h9) (fun hb9 _=>absurd hb9 hn) hb
variable {d:Tmp} {f:FuncId} {args:Array Operand} {ats:Array TypeId} {fn:Func} {vs:List Value} {K:Act→World→Prop} {tt:TypeId} {pos:String} {af:Array Edge} {gd:Option (Nat×Bool)}
theorem ecl (ha : Has n T a) (hf : P.funcs[f]? = some fn) (hargs : evA T args.toList = some vs) {R : Ending → World → Prop} (hc : Calls P f vs.toArray w R) (h : ∀ e w', R e w' → ∃ v, e = .returned v ∧ ∀ a', Has n ((d, v) :: T) a' → K a' w') (hn : (fn.name == "runtime.NumGoroutine") = false := by rfl) (hb : fn.body.isNone = false := by rfl) (ht : Nat.blt d n = true := by rfl) : Oper.wp P ⟨some d, .call { callee := .value (.func f), args := args, argTypes := ats }, tt, pos, af, gd⟩ a w K Q := lG ha hf hn hb hargs ht hc h
variable {X:Cx} {w0:World} {M:Mm}
theorem ecn (ha : Has n T a) (hf : P.funcs[f]? = some fn) (hargs : evA T args.toList = some vs) (m : MemOk X w0 M w) (i : Nat) {v u : Option Addr → Nat → Value} {et : TypeId} {k : IntKind} {zs : List Int} (hc : Calls P f vs.toArray w fun e w' => ∃ p c, e = .returned (v p c) ∧ w'.ownsRow w.heap.size et 1 (u p c) zs.length (zs.map (Value.int k)) ∧ Below w.heap.size w w') (h : ∀ p c a' w', Has n ((d, v p c) :: T) a' → MemOk X w0 ((i, .num (u p c) et k zs) :: M) w' → K a' w') (hn : (fn.name == "runtime.NumGoroutine") = false := by rfl) (hb : fn.body.isNone = false := by rfl) (ht : Nat.blt d n = true := by rfl) : Oper.wp P ⟨some d, .call { callee := .value (.func f), args := args, argTypes := ats }, tt, pos, af, gd⟩ a w K Q := lG ha hf hn hb hargs ht hc fun e w' hR => by
  obtain⟨p,c,rfl,ho,hb⟩:=hR
  exact⟨_,rfl,fun a' ha'=>h p c a' w' ha' (m.newN i hb ho)⟩
theorem ecb (ha : Has n T a) (hf : P.funcs[f]? = some fn) (hargs : evA T args.toList = some vs) (m : MemOk X w0 M w) {v : Value} (hc : Calls P f vs.toArray w fun e w' => e = .returned v ∧ Below w.heap.size w w') (h : ∀ a' w', Has n ((d, v) :: T) a' → MemOk X w0 M w' → K a' w') (hn : (fn.name == "runtime.NumGoroutine") = false := by rfl) (hb : fn.body.isNone = false := by rfl) (ht : Nat.blt d n = true := by rfl) : Oper.wp P ⟨some d, .call { callee := .value (.func f), args := args, argTypes := ats }, tt, pos, af, gd⟩ a w K Q := lG ha hf hn hb hargs ht hc fun e w' hR => by
  obtain⟨rfl,hb⟩:=hR
  exact⟨_,rfl,fun a' ha'=>h a' w' ha' (m.later hb)⟩
variable {md:Region.Mode} {e fuel:Nat} {S:World→Prop} {listed:Array Bool}
theorem wad(h:Q .normal a w)(hr:Region.ready md ops listed=[]:=by kernel_rfl):lp P md ops Q e S fuel listed a w:=rL hr h _
theorem so(i:Nat)(h:Oper.wp P o a w (fun a' w'=>S w'∧lp P md ops Q e S fuel (listed.setIfInBounds i true) a' w') Q)(hi:ops[i]? = some o:=by rfl)(hr:Region.ready md ops listed=[i]:=by kernel_rfl)(hw:Region.wanted o (yielded ops a.tmps)=true:=by rfl):lp P md ops Q e S (fuel+1) listed a w:=lh i hi hr hw fun _ hK=>Oper.wp_mono (fun a' w' h=>hK a' w' h.1 h.2) h
theorem se(i:Nat)(h:Oper.wp P o a w (lp P md ops Q e S fuel (listed.setIfInBounds i true)) Q)(hi:ops[i]? = some o:=by rfl)(hr:Region.ready md ops listed=[i]:=by kernel_rfl)(hw:Region.wanted o (yielded ops a.tmps)=true:=by rfl)(hl:(listed.setIfInBounds i true).getD e false=true:=by rfl):lp P md ops Q e S (fuel+1) listed a w:=ui i hi hr hw hl fun _ hK=>Oper.wp_mono hK h
theorem dtw(i j:Nat){oi oj:Oper}(h1:Oper.wp P oi a w (fun a' w'=>((listed.setIfInBounds i true).getD e false=false→S w')∧lp P md ops Q e S fuel (listed.setIfInBounds i true) a' w') Q)(h2:Oper.wp P oj a w (fun a' w'=>((listed.setIfInBounds j true).getD e false=false→S w')∧lp P md ops Q e S fuel (listed.setIfInBounds j true) a' w') Q)(hi:ops[i]? = some oi:=by rfl)(hj:ops[j]? = some oj:=by rfl)(hr:Region.ready md ops listed=[i,j]:=by kernel_rfl)(hwi:Region.wanted oi (Go.yielded ops a.tmps)=true:=by rfl)(hwj:Region.wanted oj (Go.yielded ops a.tmps)=true:=by rfl):lp P md ops Q e S (fuel+1) listed a w:=
  xY i j hi hj hr hwi hwj (fun _ hK=>Oper.wp_mono (fun a' w' h=>hK a' w' h.1 h.2) h1) (fun _ hK=>Oper.wp_mono (fun a' w' h=>hK a' w' h.1 h.2) h2)
end

section
variable {P:Program} {Q:Exit→Act→World→Prop} {a:Act} {w:World} {n:Nat} {T:List (Nat×Value)}
end
end
end Go.Proofs.YteglmahnkfgelaaGreat.K
