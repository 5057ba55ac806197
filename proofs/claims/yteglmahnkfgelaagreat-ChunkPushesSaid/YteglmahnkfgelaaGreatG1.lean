/- General laws of walks. -/
import Derived.Test.YteglmahnkfgelaaGreatRows
import Derived.WalkKit
import Derived.ProofKit
import Derived.OpenShut
import Derived.IntWalk
import Derived.WalkLawsBesides
import Derived.WalkSpells
import Derived.Handy
import Derived.LoopTactic
import Derived.Lib.Hide
import Derived.OwnWalk
import Derived.Laws.AppendOwnNone
import Derived.Laws.BytesArg
import Derived.Laws.BitsLemmas
import Derived.Lib.AppendZerosOnto
import Derived.Lib.AppendZeros
import Derived.Lib.SliceRun
import Derived.OrdersHeld
import Derived.Deep.RegionHeld
import Derived.Deep.MidRow
import Derived.Laws.CopyOwn
import Derived.Great.BuildSlice
import Derived.StillTail
import Derived.Deep.LoopGhost
namespace Go.Proofs.YteglmahnkfgelaaGreat.K
open Go.ChangeShapes Go.WideShapes Go.ChangeAt Go.RowKit
set_option linter.unusedVariables false
set_option linter.unusedSimpArgs false
set_option maxRecDepth 100000
set_option maxHeartbeats 4000000
set_option autoImplicit true
set_option relaxedAutoImplicit true
section
theorem wy{a b:Bool}(h:a=b):Ending.returned (.bool a)=.returned (.bool b):=by rw[h]
def IsNums(k:IntKind)(w:World)(v:Value)(zs:List Int):Prop:=
 ∃ a c,v=.slice a zs.length c∧(zs.length=0∨∃ b off,a=some ⟨b,off,none⟩∧b<w.heap.size∧∀ j,j<zs.length→w.cell? ⟨b,off+j,none⟩=some (.int k (zs.getD j 0)))
theorem IsNums.nil(k:IntKind)(w:World)(a:Option Addr)(c:Nat):IsNums k w (.slice a 0 c) []:=⟨a,c,rfl,.inl rfl⟩
theorem IsNums.below{k:IntKind}{B:Nat}{w w':World}{v:Value}{zs:List Int}(h:IsNums k w v zs)(hb:Below B w w')(hB:w.heap.size≤B):IsNums k w' v zs:=by
 obtain⟨a,c,rfl,h|⟨b,off,rfl,h1,h2⟩⟩:=h
 · exact⟨a,c,rfl,.inl h⟩
 refine⟨_,c,rfl,.inr ⟨b,off,rfl,by have:=hb.size;omega,fun j hj =>?_⟩⟩
 rw[hb.cell (by show b<B;omega)]
 exact h2 j hj
theorem IsNums.alloc{k:IntKind}{w:World}{v:Value}{zs:List Int}(h:IsNums k w v zs)(o:Obj):IsNums k (w.alloc o) v zs:=
 h.below ((Below.refl w.heap.size w).alloc (Nat.le_refl _) o) (Nat.le_refl _)
theorem IsNums.lit(k:IntKind)(w:World)(zs:List Int)(N:Nat)(e:TypeId)(n c:Nat)(hN:N=w.heap.size)(hn:n=zs.length):IsNums k (w.alloc (.cells (zs.map (Value.int k)).toArray e)) (.slice (some ⟨N,0,none⟩) n c) zs:=by
 subst hN;subst hn
 refine⟨_,c,rfl,.inr ⟨_,0,rfl,by simp,fun j hj =>?_⟩⟩
 unfold World.cell? World.alloc
 simp [hj,List.getD]
theorem IsNums.ofOwn{k:IntKind}{w:World}{B:Nat}{e:TypeId}{v:Value}{n:Nat}{zs:List Int}(h:w.ownsRow B e 1 v n (zs.map (Value.int k))):IsNums k w v zs:=by
 have hn:n=zs.length:=by have:=h.1;simpa using this.symm
 subst hn
 rcases h.2 with ⟨rfl,h0⟩|⟨g,cap,cur,rfl,hg,hb,h1,h2,h3,h4⟩
 · obtain rfl:=List.length_eq_zero_iff.1 h0;exact IsNums.nil k w none 0
 refine⟨_,cap,rfl,.inr ⟨g,0,rfl,(Array.getElem?_eq_some_iff.1 hb).1,fun j hj =>?_⟩⟩
 have:=h.cellAt j (by omega)
 rw[Nat.zero_add,this]
 simp [hj,List.getD]
theorem IsNums.ofRow{k:IntKind}{w:World}{a:Option Addr}{len cap:Nat}{zs:List Int}
   (h:(a=none∧len=0∧cap=0∧zs=[])∨∃ x,a=some x∧len≤cap∧cap≤maxLen∧zs.length=cap∧(∀ i,i<zs.length→w.cell? (x.add i)=some (.int k (zs.getD i 0)))∧∀ n∈zs,(Lit.int k n).wf=true) :
   ∃ ys,IsNums k w (.slice a len cap) ys∧ys.length=len∧len≤maxLen∧∀ n∈ys,(Lit.int k n).wf=true:=by
 rcases h with ⟨rfl,rfl,rfl,rfl⟩|⟨x,rfl,hl,hm,hz,hcell,hwf⟩
 · exact⟨[],IsNums.nil _ _ _ _,rfl,Nat.zero_le _,by simp⟩
 refine⟨zs.take len,?_,by simp;omega,Nat.le_trans hl hm,fun n hn=>hwf n (List.mem_of_mem_take hn)⟩
 have hlen:(zs.take len).length=len:=by simp;omega
 refine⟨some x,cap,by rw[hlen],?_⟩
 by_cases h0:len=0
 · left;rw[hlen];exact h0
 obtain⟨b,off,spot⟩:=x
 have hc:=hcell 0 (by omega)
 have hspot:spot=none:=by simpa [Addr.add] using World.cell?_spot hc
 subst hspot
 refine .inr ⟨b,off,rfl,?_,fun j hj =>?_⟩
 · exact World.block_lt_of_cell? w _ hc
 have h5:=hcell j (by omega)
 rw[show(Addr.add ⟨b,off,none⟩ j)=⟨b,off+j,none⟩ by simp [Addr.add]] at h5
 rw[h5]
 simp only [List.getD,List.getElem?_take]
 rw[if_pos (by omega)]
theorem pK{P:Program}{ops:Array Oper}{rest:List Oper}{o:Oper}{a:Act}{Q:Exit→Act→World→Prop}{w:World}(hgd:o.guard=none)(s x:Operand)(t:TypeId)
   (ho:o.op=.call { callee:=.builtin .append,args:=#[s,x],argTypes:=#[t,t] })
   (base:Nat) (e:TypeId) (k:IntKind) (bytes:Nat) (ht:P.underlying t=some (.slice e)) (hi:(P.info? e).map (fun i=>(i.zero,i.size,i.bytes))=some (some (.int k 0),1,bytes)) (hb8:bytes≤8)
   (v:Value) (n:Nat) (xs:List Value) (hs:a.eval s=v) (hown:w.ownsRow base e 1 v n xs)
   (X:Int) (c:Nat) (hx:a.eval x=.slice (some ⟨w.heap.size,0,none⟩) 1 c) (hn:n≤1000000000) (hbase:base≤w.heap.size)
   (h:∀ v' w',w'.ownsRow base e 1 v' (n+1) (xs++[.int k X])→Below base w w'→wpList P ops Q rest (a.put o.dst v') w'):wpList P ops Q (o :: rest) a (w.alloc (.cells #[.int k X] e)):=by
 obtain⟨i0,hi,hz0,hz1,hz2⟩:=info_parts hi
 have hbn:(n+1)*bytes≤140737488355328:=Nat.le_trans (Nat.mul_le_mul_left _ hb8) (by omega)
 refine wpList_append_own _ hgd s x t ho base e i0 (.int k 0) 1 bytes ht hi hz0 hz1 hz2 rfl (by decide) v n xs hs (hown.alloc _) ⟨w.heap.size,0,none⟩ 1 c [.int k X] hx rfl ?_ (by intro u hu;simp at hu;subst hu;rfl) (by unfold maxLen;omega) hbn (by simp;omega) ?_
 · intro j u hj
   rcases j with _|j
   · simp at hj;subst hj
     unfold World.cell? World.alloc;simp [Addr.add]
   simp at hj
 intro v' w' h1 h2 _
 refine h v' w' h1 (((Below.refl _ w).alloc hbase _).grown h2 (by simp;omega) (fun j hj =>?_))
 exact(hown.lt j hj).1
end
section
theorem mQ{P:Program}{w:World}{base:Nat}{t ty e:TypeId}{i:TypeInfo}{size:Nat}(ht:P.underlying t=some (.slice e))(hi:P.info? e=some i){v:Value}{n:Nat}{xs:List Value}(hown:w.ownsRow base e size v n xs)(c:Nat) :
   (Builtin.append_ #[t,t] ty #[v,.slice none 0 c]).run P w=.ok v w:=by
 rcases hown.2 with ⟨rfl,rfl⟩|⟨g,cap,cur,rfl,_,_,hle,_,_,_⟩
 · simp [Builtin.append_,run_underlying ht,sizeOf,typeInfo,hi,Builtin.lenOf,Builtin.firstCells]
 have hnc:¬ cap<n:=by omega
 simp [Builtin.append_,run_underlying ht,sizeOf,typeInfo,hi,Builtin.lenOf,Builtin.firstCells,hnc,storeCells]
theorem rO{P:Program}{ops:Array Oper}{rest:List Oper}{o:Oper}{a:Act}{Q:Exit→Act→World→Prop}{w:World}(hgd:o.guard=none)(s x:Operand)(t:TypeId)
   (ho:o.op=.call { callee:=.builtin .append,args:=#[s,x],argTypes:=#[t,t] })
   (base:Nat) (e:TypeId) (k:IntKind) (bytes:Nat) (ht:P.underlying t=some (.slice e)) (hi:(P.info? e).map (fun i=>(i.zero,i.size,i.bytes))=some (some (.int k 0),1,bytes)) (hb8:bytes≤8)
   (v:Value) (n:Nat) (xs:List Value) (hs:a.eval s=v) (hown:w.ownsRow base e 1 v n xs)
   (u:Value) (zs:List Int) (hx:a.eval x=u) (hu:IsNums k w u zs) (hn:n+zs.length≤1000000000) (hbase:base≤w.heap.size)
   (h:∀ v' w',w'.ownsRow base e 1 v' (n+zs.length) (xs++zs.map (Value.int k))→Below base w w'→wpList P ops Q rest (a.put o.dst v') w'):wpList P ops Q (o :: rest) a w:=by
 obtain⟨i0,hi,hz0,hz1,hz2⟩:=info_parts hi
 have hbn:(n+zs.length)*bytes≤140737488355328:=Nat.le_trans (Nat.mul_le_mul_left _ hb8) (by omega)
 obtain⟨p,c,rfl,hp⟩:=hu
 have main:∀ ad:Addr,p=some ad→(∀ j v,(zs.map (Value.int k))[j]? = some v→w.cell? (ad.add j)=some v)→wpList P ops Q (o :: rest) a w:=by
   intro ad hpa hcells
   refine wpList_append_own _ hgd s x t ho base e i0 (.int k 0) 1 bytes ht hi hz0 hz1 hz2 rfl (by decide) v n xs hs hown ad zs.length c (zs.map (Value.int k)) (by rw[hx,hpa]) (by simp) hcells ?_ (by unfold maxLen;omega) hbn hbase ?_
   · intro u hu
     obtain⟨y,_,rfl⟩:=List.mem_map.1 hu
     rfl
   intro v' w' h1 h2 _
   exact h v' w' h1 ((Below.refl _ w).grown h2 hbase (fun j hj=>(hown.lt j hj).1))
 by_cases h0:zs.length=0
 · obtain rfl:=List.length_eq_zero_iff.1 h0
   cases p with
   | none =>
     refine Lib.wpList_append_run w hgd s x t t ho v _ hs hx v w (mQ ht hi hown c) (h v w (by simpa using hown) (Below.refl _ _))
   | some ad=>exact main ad rfl (by simp)
 rcases hp with hp|⟨b,off,rfl,hblk,hc⟩
 · exact absurd hp h0
 refine main _ rfl ?_
 intro j u hj
 have hjn:j<zs.length:=by
   have:=(List.getElem?_eq_some_iff.1 hj).1
   simpa using this
 rw[Addr.add_lit,hc j hjn]
 simp [hjn] at hj
 subst hj
 simp [List.getD,hjn]
theorem pB:(Tryz.prog.info? 5).map (fun i=>(i.zero,i.size,i.bytes))=some (some (.int .u8 0),1,1):=by kernel_rfl
theorem qo{P:Program}{w:World}{v:Value}{bs:List Int}(h:IsNums .u8 w v bs)(src e:TypeId)(hs:P.underlying src=some (.slice e))(he:P.underlying e=some (.int .u8)) :
   ∀ dst,P.underlying dst=some .string→(convert src dst v).run P w=.ok (.string (strOfNums bs)) w:=by
 intro dst hd
 obtain⟨p,c,rfl,hp⟩:=h
 by_cases h0:bs.length=0
 · obtain rfl:=List.length_eq_zero_iff.1 h0
   cases p with
   | none=>exact run_convert_bytes_nil w src e hs he _ _ dst hd
   | some ad =>
     have hl:(loadCells ad 0).run P w=.ok ([]:List Value).toArray w:=run_loadCells_list (P:=P) w ad [] (by simp)
     show(convert src dst (.slice (some ad) 0 c)).run P w=_
     rw[run_convert_bytes_string w src dst e _ 0 c hs he hd,run_bytesToString w _ 0 c [] (by simpa using hl)]
     rfl
 rcases hp with hp|⟨b,off,rfl,hblk,hc⟩
 · exact absurd hp h0
 exact run_convert_bytes_arg w src e hs he b off bs.length c bs rfl hc dst hd
theorem x9{a b:List Int}(ha:∀ x∈a,0≤x∧x≤255)(hb:∀ x∈b,0≤x∧x≤255)(h:strOfNums a=strOfNums b):a=b:=by
 have h1:=congrArg (fun s=>s.data.toList) h
 simp only [strOfNums_data] at h1
 induction a generalizing b with
 | nil=>cases b with
   | nil=>rfl
   | cons y b=>simp at h1
 | cons x a ih=>cases b with
   | nil=>simp at h1
   | cons y b =>
     simp only [List.map_cons,List.cons.injEq] at h1
     have hx:=ha x (by simp)
     have hy:=hb y (by simp)
     have e:x=y:=by
       have:=congrArg UInt8.toNat h1.1
       simp at this
       omega
     subst e
     congr 1
     have h2:strOfNums a=strOfNums b:=by
       unfold strOfNums;rw[h1.2]
     exact ih (fun z hz=>ha z (by simp [hz])) (fun z hz=>hb z (by simp [hz])) h2 h1.2
end
section
section
variable {P:Program} {ops:Array Oper} {Q:Exit→Act→World→Prop} {md:Region.Mode}
def Ext(w W:World):Prop:=Below w.heap.size w W
end
end
section
def Keep(bad:Nat→Prop)(w W:World):Prop:=W.os=w.os∧W.tape=w.tape∧W.output=w.output∧w.heap.size≤W.heap.size∧∀ k,k<w.heap.size→¬ bad k→W.heap[k]? = w.heap[k]?
theorem Keep.refl(bad:Nat→Prop)(w:World):Keep bad w w:=⟨rfl,rfl,rfl,Nat.le_refl _,fun _ _ _=>rfl⟩
theorem Keep.trans{bad:Nat→Prop}{a b c:World}(h:Keep bad a b)(k:Keep bad b c):Keep bad a c:=
 ⟨k.1.trans h.1,k.2.1.trans h.2.1,k.2.2.1.trans h.2.2.1,Nat.le_trans h.2.2.2.1 k.2.2.2.1,fun i hi hn=>(k.2.2.2.2 i (Nat.lt_of_lt_of_le hi h.2.2.2.1) hn).trans (h.2.2.2.2 i hi hn)⟩
theorem Keep.mono{bad bad':Nat→Prop}{w W:World}(h:Keep bad' w W)(hb:∀ k,bad' k→bad k):Keep bad w W:=⟨h.1,h.2.1,h.2.2.1,h.2.2.2.1,fun i hi hn=>h.2.2.2.2 i hi (fun hb'=>hn (hb i hb'))⟩
theorem Keep.ofBelow{bad:Nat→Prop}{w W:World}(h:Below w.heap.size w W):Keep bad w W:=⟨h.os,h.tape,h.output,h.size,fun k hk _=>h.block k hk⟩
theorem Keep.below{bad:Nat→Prop}{N:Nat}{w W:World}(h:Keep bad w W)(hb:∀ k,bad k→N≤k)(hN:N≤w.heap.size):Below N w W:=
 ⟨h.1,h.2.1,h.2.2.1,h.2.2.2.1,fun k hk=>h.2.2.2.2 k (by omega) (fun hbk=>by have:=hb k hbk;omega)⟩
theorem Keep.cell{bad:Nat→Prop}{w W:World}(h:Keep bad w W){p:Addr}(hn:¬ bad p.block)(hp:p.block<w.heap.size):W.cell? p=w.cell? p:=World.cell?_of_block (w:=w) (h.2.2.2.2 p.block hp hn)
theorem Keep.frozen{bad:Nat→Prop}{w W:World}(h:Keep bad w W){p:Addr}(hn:¬ bad p.block)(hp:p.block<w.heap.size):W.frozen? p=w.frozen? p:=World.frozen?_of_block (w:=w) (h.2.2.2.2 p.block hp hn)
theorem Keep.size{bad:Nat→Prop}{w W:World}(h:Keep bad w W):w.heap.size≤W.heap.size:=h.2.2.2.1
section
variable {P:Program} {ops:Array Oper} {Q:Exit→Act→World→Prop} {md:Region.Mode} {w0:World} {bad:Nat→Prop}
end
end
section
/-! ### Lists of parts of one length -/
theorem nF{α:Type}(f:α→List Value)(k:Nat):∀ (l:List α),(∀ s∈l,(f s).length=k)→(l.flatMap f).length=l.length*k
 | [],_=>by simp
 | a :: l,h=>by
   rw[List.flatMap_cons,List.length_append,h a (by simp),nF f k l (fun s hs=>h s (by simp [hs])),List.length_cons,Nat.add_mul]
   omega
/-! ### Bytes as cells -/
def B8(s:List Int):List Value:=s.map (Value.int .u8)
def A5(ss:List (List Int)):List Value:=ss.flatMap B8
/-! ### A block that is known whole -/
def Blk(w:World)(g:Nat)(e:TypeId)(cs:List Value):Prop:=w.heap[g]? = some (.cells cs.toArray e (0,0))
theorem Blk.lt{w:World}{g:Nat}{e:TypeId}{cs:List Value}(h:Blk w g e cs):g<w.heap.size:=(Array.getElem?_eq_some_iff.1 h).1
theorem Blk.cell{w:World}{g:Nat}{e:TypeId}{cs:List Value}(h:Blk w g e cs)(j:Nat):w.cell? ⟨g,j,none⟩=cs[j]?:=by
 rw[cell_of_row w g j _ e (0,0) h];simp
theorem Blk.free{w:World}{g:Nat}{e:TypeId}{cs:List Value}(h:Blk w g e cs)(j:Nat):w.frozen? ⟨g,j,none⟩=false:=frozen_of_row w g j _ e h
theorem Blk.keep{bad:Nat→Prop}{w W:World}{g:Nat}{e:TypeId}{cs:List Value}(h:Blk w g e cs)(hk:Keep bad w W)(hb:¬ bad g):Blk W g e cs:=(hk.2.2.2.2 g h.lt hb).trans h
theorem Blk.below{N:Nat}{w W:World}{g:Nat}{e:TypeId}{cs:List Value}(h:Blk w g e cs)(hk:Below N w W)(hb:g<N):Blk W g e cs:=(hk.block g hb).trans h
theorem Blk.alloc(w:World)(e:TypeId)(cs:Array Value):Blk (w.alloc (.cells cs e)) w.heap.size e cs.toList:=by
 unfold Blk;rw[Array.toArray_toList];exact heap_alloc_new w _
theorem Blk.range{w:World}{g:Nat}{e:TypeId}{cs:List Value}(h:Blk w g e cs)(o:Nat)(xs:List Value)(hx:∀ j,j<xs.length→cs[o+j]? = xs[j]?):w.rangeAt g o xs:=fun j v hv=>by
 have hj:j<xs.length:=(List.getElem?_eq_some_iff.1 hv).1
 rw[h.cell,hx j hj,hv]
theorem Blk.nums{w:World}{g:Nat}{e:TypeId}{cs:List Value}(h:Blk w g e cs)(o c:Nat)(s:List Int)(n:Nat)(hn:n=s.length)(hx:∀ j,j<s.length→cs[o+j]? = (B8 s)[j]?):IsNums .u8 w (.slice (some ⟨g,o,none⟩) n c) s:=by
 subst hn
 refine⟨_,c,rfl,.inr ⟨g,o,rfl,h.lt,fun j hj =>?_⟩⟩
 rw[h.cell,hx j hj]
 simp [B8,hj,List.getD]
theorem Keep.setRow{bad:Nat→Prop}{w:World}{g:Nat}(hb:bad g)(cs:Array Value):Keep bad w (w.setRow g cs):=
 ⟨rfl,rfl,rfl,by simp [World.setRow],fun k hk hn=>setRow_other w g k cs (fun e=>hn (by rw[e];exact hb))⟩
theorem Keep.setCell{bad:Nat→Prop}{w:World}{a:Addr}(hb:bad a.block)(v:Value):Keep bad w (w.setCell a v):=
 ⟨rfl,rfl,rfl,by simp [World.setCell],fun k hk hn=>Below.heap_setCell w a v k (fun e=>hn (by rw[e];exact hb))⟩
theorem Keep.alloc(bad:Nat→Prop)(w:World)(o:Obj):Keep bad w (w.alloc o):=Keep.ofBelow ((Below.refl _ w).alloc (Nat.le_refl _) o)
theorem Blk.setCell{w:World}{g:Nat}{e:TypeId}{cs:List Value}(h:Blk w g e cs)(j:Nat)(v:Value):Blk (w.setCell ⟨g,j,none⟩ v) g e (cs.set j v):=by
 unfold Blk
 rw[setCell_eq_setRow w g j _ e (0,0) v h,setRow_heap w g _ _ e _ h]
 simp
theorem mF{P:Program}{w:World}{g:Nat}{e:TypeId}{cs:List Value}(h:Blk w g e cs)(o:Nat)(ty:TypeId)(xs:List Value)(hfit:o+xs.length≤cs.length)
   (hi:(P.info? ty).map (·.size)=some xs.length) (h1:∀ v∈xs,v.oneCell'=true) :
   ∃ w',(Instr.storeAt ty (.pointer (some ⟨g,o,none⟩)) (.agg xs.toArray)).run P w=.ok () w'∧Blk w' g e (cs.take o++xs++cs.drop (o+xs.length))∧∀ bad:Nat→Prop,bad g→Keep bad w w':=by
 have hst:=run_storeCells_at P g o e xs 0 cs.toArray w h (by simpa using hfit) h1
 cases hq:P.info? ty with
 | none=>simp [hq] at hi
 | some i =>
   have hs:xs.length=i.size:=by simp [hq] at hi;omega
   refine⟨w.setRow g (cs.take o++xs++cs.drop (o+xs.length)).toArray,?_,?_,fun bad hb=>Keep.setRow hb _⟩
   · rw[Nat.add_zero] at hst
     have hst':(storeCells ⟨g,o,none⟩ xs 0).run P w=.ok () (w.setRow g (cs.take o++xs++cs.drop (o+xs.length)).toArray):=by rw[hst]
     simp only [Instr.storeAt,Instr.sureAddr,Sem.run_bind,Sem.run_pure,Result.andThen_ok]
     simp [storeVar,sizeOf,typeInfo,hq,Value.cells,← hs,hst']
   unfold Blk
   rw[setRow_heap w g _ _ e _ h]
/-! ### What a literal of a struct lays -/
def NumsOff(bad:Nat→Prop)(w:World)(v:Value)(zs:List Int):Prop:=
 ∃ a c,v=.slice a zs.length c∧(zs.length=0∨∃ b off,a=some ⟨b,off,none⟩∧b<w.heap.size∧¬ bad b∧∀ j,j<zs.length→w.cell? ⟨b,off+j,none⟩=some (.int .u8 (zs.getD j 0)))
theorem NumsOff.nums{bad:Nat→Prop}{w:World}{v:Value}{zs:List Int}(h:NumsOff bad w v zs):IsNums .u8 w v zs:=by
 obtain⟨a,c,rfl,h|⟨b,off,rfl,h1,h2,h3⟩⟩:=h
 · exact⟨a,c,rfl,.inl h⟩
 exact⟨_,c,rfl,.inr ⟨b,off,rfl,h1,h3⟩⟩
theorem NumsOff.keep{bad bad':Nat→Prop}{w W:World}{v:Value}{zs:List Int}(h:NumsOff bad w v zs)(hk:Keep bad' w W)(hb:∀ k,bad' k→bad k):NumsOff bad W v zs:=by
 obtain⟨a,c,rfl,h|⟨b,off,rfl,h1,h2,h3⟩⟩:=h
 · exact⟨a,c,rfl,.inl h⟩
 exact⟨_,c,rfl,.inr ⟨b,off,rfl,Nat.lt_of_lt_of_le h1 hk.size,h2,fun j hj=>by rw[hk.cell (fun hh=>h2 (hb _ hh)) h1];exact h3 j hj⟩⟩
theorem NumsOff.mono{bad bad':Nat→Prop}{w:World}{v:Value}{zs:List Int}(h:NumsOff bad w v zs)(hb:∀ k,k<w.heap.size→bad' k→bad k):NumsOff bad' w v zs:=by
 obtain⟨a,c,rfl,h|⟨b,off,rfl,h1,h2,h3⟩⟩:=h
 · exact⟨a,c,rfl,.inl h⟩
 exact⟨_,c,rfl,.inr ⟨b,off,rfl,h1,fun hh=>h2 (hb _ h1 hh),h3⟩⟩
theorem NumsOff.nil(bad:Nat→Prop)(w:World)(a:Option Addr)(c:Nat):NumsOff bad w (.slice a 0 c) []:=⟨a,c,rfl,.inl rfl⟩
theorem NumsOff.of{bad:Nat→Prop}{w:World}{v:Value}{zs:List Int}(h:IsNums .u8 w v zs)(hb:∀ k,k<w.heap.size→¬ bad k):NumsOff bad w v zs:=by
 obtain⟨a,c,rfl,h|⟨b,off,rfl,h1,h3⟩⟩:=h
 · exact⟨a,c,rfl,.inl h⟩
 exact⟨_,c,rfl,.inr ⟨b,off,rfl,h1,hb b h1,h3⟩⟩
theorem NumsOff.below{bad:Nat→Prop}{N:Nat}{w W:World}{v:Value}{zs:List Int}(h:IsNums .u8 w v zs)(hW:Below w.heap.size w W)(hb:∀ k,bad k→w.heap.size≤k):NumsOff bad W v zs:=by
 obtain⟨a,c,rfl,h|⟨b,off,rfl,h1,h3⟩⟩:=h
 · exact⟨a,c,rfl,.inl h⟩
 exact⟨_,c,rfl,.inr ⟨b,off,rfl,Nat.lt_of_lt_of_le h1 hW.size,fun hh=>by have:=hb b hh;omega,fun j hj=>by rw[hW.cell h1];exact h3 j hj⟩⟩
section
variable {P:Program} {ops:Array Oper} {rest:List Oper} {op:Oper} {a:Act} {w:World} {Q:Exit→Act→World→Prop} {K:Act→World→Prop}
end
end
section
section
variable {P:Program} {ops:Array Oper} {Q:Exit→Act→World→Prop} {md:Region.Mode} {S:World→Prop} {e:Nat}
def Closed(md:Region.Mode)(ops:Array Oper)(L:Array Bool):Prop:=
 L.size=ops.size∧∀ j oj,ops[j]? = some oj→L.getD j false=true→∀ ed∈oj.after,Region.binds md ed=true→L.getD ed.on false=true
def nc(md:Region.Mode)(ops:Array Oper)(L:Array Bool):Bool:=
 decide (L.size=ops.size) && (List.range ops.size).all fun j => !(L.getD j false) || match ops[j]? with
   | some oj=>oj.after.all fun ed => !(Region.binds md ed) || L.getD ed.on false
   | none=>true
theorem nG{L:Array Bool}(h:nc md ops L=true):Closed md ops L:=by
 unfold nc at h
 simp only [Bool.and_eq_true,decide_eq_true_eq] at h
 refine⟨h.1,fun j oj hj hl ed hed hb =>?_⟩
 have hjs:j<ops.size:=(Array.getElem?_eq_some_iff.1 hj).1
 have h1:=List.all_eq_true.1 h.2 j (List.mem_range.2 hjs)
 rw[hl,hj] at h1
 simp only [Bool.not_true,Bool.false_or] at h1
 have h2:=(Array.all_eq_true_iff_forall_mem.1 h1) ed hed
 rw[hb] at h2
 simpa using h2
theorem Closed.set{L:Array Bool}(hc:Closed md ops L){j:Nat}(hj:j∈Region.ready md ops L):Closed md ops (L.setIfInBounds j true):=by
 obtain⟨_,oi,hoi,hall⟩:=mem_ready.1 hj
 refine⟨by simp [hc.1],fun k ok hk hl ed hed hb =>?_⟩
 by_cases hjk:j=k
 · subst hjk
   have:ok=oi:=Option.some.inj (hk.symm.trans hoi)
   subst this
   exact getD_set_true (hall ed hed hb)
 rw[getD_set_ne false hjk] at hl
 exact getD_set_true (hc.2 k ok hk hl ed hed hb)
def AA(md:Region.Mode)(ops:Array Oper):Nat→Nat→Nat→Bool
 | 0,k,i=>k == i
 | f+1,k,i=>k == i || match ops[k]? with
   | some o=>o.after.any fun ed=>Region.binds md ed && AA md ops f ed.on i
   | none=>false
def lp(P:Program)(md:Region.Mode)(ops:Array Oper)(Q:Exit→Act→World→Prop)(e:Nat)(S:World→Prop):Nat→Array Bool→Act→World→Prop
 | 0,listed,a,w=>Region.ready md ops listed=[]∧Q .normal a w
 | fuel+1,listed,a,w =>
   (Region.ready md ops listed=[]→Q .normal a w)∧
   ∀ i∈Region.ready md ops listed,wpOp P ops Q i (fun a' w'=>((listed.setIfInBounds i true).getD e false=false→S w')∧lp P md ops Q e S fuel (listed.setIfInBounds i true) a' w') a w
theorem nZ:∀ (fuel:Nat) (listed:Array Bool) (a:Act) (w:World),lp P md ops Q e S fuel listed a w→wpAny P md ops Q fuel listed a w
 | 0,_,_,_,h=>h
 | fuel+1,_,_,_,h=>⟨h.1,fun i hi=>wpOp_mono (fun a' w' h'=>nZ fuel _ a' w' h'.2) (h.2 i hi)⟩
theorem qb{i:Nat}{oi:Oper}{v:Value}(hi:ops[i]? = some oi)(hsel:∀ (j:Nat) (o:Oper) cs b,ops[j]? = some o→o.op≠.select cs b)
   (hQ:∀ c a w,Q (.panic c) (a.put oi.dst v) w→Q (.panic c) a w) (hei:i≠e) :
   ∀ (fuel:Nat) (listed:Array Bool) (a:Act) (w:World),
     (∀ j oj,ops[j]? = some oj→j≠i→listed.getD j true=false→(∀ ed∈oj.after,Region.binds md ed=true→ed.on≠i)→oi.apart ops oj=true)→
     i∈Region.ready md ops listed→YieldsIf P ops (fun _=>True) oi v a→(listed.getD e false=false→S w)→
     lp P md ops Q e S fuel (listed.setIfInBounds i true) (a.put oi.dst v) w→lp P md ops Q e S (fuel+1) listed a w:=by
 intro fuel
 induction fuel with
 | zero =>
   intro listed a w _ hr hy hS H
   refine⟨fun h=>(by rw[h] at hr;cases hr),fun j hj =>?_⟩
   by_cases hji:j=i
   · subst hji;exact hy.wpOp hi trivial ⟨fun h=>hS (by rwa [getD_set_ne false hei] at h),H⟩
   have:=ready_mono hj hji
   rw[H.1] at this
   cases this
 | succ fuel ih =>
   intro listed a w hfree hr hy hS H
   refine⟨fun h=>(by rw[h] at hr;cases hr),fun j hj =>?_⟩
   by_cases hji:j=i
   · subst hji;exact hy.wpOp hi trivial ⟨fun h=>hS (by rwa [getD_set_ne false hei] at h),H⟩
   have h1:=H.2 j (ready_mono hj hji)
   obtain⟨hjun,oj,hoj,hall⟩:=mem_ready.1 hj
   have hnot:∀ ed∈oj.after,Region.binds md ed=true→ed.on≠i:=fun ed he hb heq=>by
     have h1:=hall ed he hb
     have h0:=(mem_ready.1 hr).1
     rw[heq,getD_both h0] at h1
     cases h1
   have h2:=wpOp_putIf hoj (hfree j oj hoj hji hjun hnot) (fun cs b=>hsel i oi cs b hi) (fun cs b=>hsel j oj cs b hoj) hQ hy h1
   have hfree':∀ k ok,ops[k]? = some ok→k≠i→(listed.setIfInBounds j true).getD k true=false→
       (∀ ed∈ok.after,Region.binds md ed=true→ed.on≠i)→oi.apart ops ok=true:=fun k ok hk hki hun hno=>by
     refine hfree k ok hk hki ?_ hno
     by_cases hjk:j=k
     · subst hjk;exact hjun
     rw[getD_set_ne true hjk] at hun;exact hun
   refine wpOp_mono (fun a' w' h3 =>?_) h2
   have hS':(listed.setIfInBounds j true).getD e false=false→S w':=fun hq=>h3.2.1 (by rw[Array.setIfInBounds_comm _ _ (Ne.symm hji),getD_set_ne false hei];exact hq)
   refine⟨hS',ih (listed.setIfInBounds j true) a' w' hfree' (ready_mono hr (Ne.symm hji)) h3.1 hS' ?_⟩
   rw[Array.setIfInBounds_comm _ _ hji]
   exact h3.2.2
theorem um(i:Nat)(d:Option Tmp){oi:Oper}{v:Value}{fuel:Nat}{listed:Array Bool}{a:Act}{w:World}(hS:listed.getD e false=false→S w)(hi:ops[i]? = some oi)(hd:oi.dst=d)
   (hs:Region.noSelect ops=true) (hf:Region.free md ops listed i=true) (hr:(Region.ready md ops listed).contains i=true) (hei:decide (i≠e)=true)
   (hQ:∀ c a w,Q (.panic c) (a.put d v) w→Q (.panic c) a w) (hw:Region.wanted oi (yielded ops a.tmps)=true)
   (hy:∀ W,(execOp a.eval oi).run P W=.ok (.value v) W)
   (h:lp P md ops Q e S fuel (listed.setIfInBounds i true) (a.put d v) w):lp P md ops Q e S (fuel+1) listed a w:=by
 subst hd
 exact qb hi (Region.noSelect_spec hs) hQ (of_decide_eq_true hei) fuel listed a w (Region.free_spec hi hf) (by simpa using hr) (.inl ⟨hw,fun W _=>hy W⟩) hS h
theorem pW(i:Nat)(d:Option Tmp){oi:Oper}{fuel:Nat}{listed:Array Bool}{a:Act}{w:World}(hS:listed.getD e false=false→S w)(hi:ops[i]? = some oi)(hd:oi.dst=d)
   (hs:Region.noSelect ops=true) (hf:Region.free md ops listed i=true) (hr:(Region.ready md ops listed).contains i=true) (hei:decide (i≠e)=true)
   (hQ:∀ c a w,Q (.panic c) (a.put d undef) w→Q (.panic c) a w) (hw:Region.wanted oi (yielded ops a.tmps)=false)
   (h:lp P md ops Q e S fuel (listed.setIfInBounds i true) (a.put d undef) w):lp P md ops Q e S (fuel+1) listed a w:=by
 subst hd
 exact qb hi (Region.noSelect_spec hs) hQ (of_decide_eq_true hei) fuel listed a w (Region.free_spec hi hf) (by simpa using hr) (.inr ⟨hw,rfl⟩) hS h
theorem lh(i:Nat){o:Oper}{fuel:Nat}{listed:Array Bool}{a:Act}{w:World}(hi:ops[i]? = some o)(hr:Region.ready md ops listed=[i])
   (hw:Region.wanted o (yielded ops a.tmps)=true)
   (h:∀ K':Act→World→Prop,(∀ a' w',S w'→lp P md ops Q e S fuel (listed.setIfInBounds i true) a' w'→K' a' w')→Oper.wp P o a w K' Q) :
   lp P md ops Q e S (fuel+1) listed a w:=by
 refine⟨fun h0=>absurd (hr ▸ h0) (by simp),fun j hj =>?_⟩
 rw[hr] at hj
 obtain rfl:j=i:=by simpa using hj
 refine wpOp_step hi (fun K' hK =>?_)
 rw[if_pos hw]
 exact h K' (fun a' w' hb hn=>hK a' w' ⟨fun _=>hb,hn⟩)
theorem ui(i:Nat){o:Oper}{fuel:Nat}{listed:Array Bool}{a:Act}{w:World}(hi:ops[i]? = some o)(hr:Region.ready md ops listed=[i])
   (hw:Region.wanted o (yielded ops a.tmps)=true) (hl:(listed.setIfInBounds i true).getD e false=true)
   (h:∀ K':Act→World→Prop,(∀ a' w',lp P md ops Q e S fuel (listed.setIfInBounds i true) a' w'→K' a' w')→Oper.wp P o a w K' Q) :
   lp P md ops Q e S (fuel+1) listed a w:=by
 refine⟨fun h0=>absurd (hr ▸ h0) (by simp),fun j hj =>?_⟩
 rw[hr] at hj
 obtain rfl:j=i:=by simpa using hj
 refine wpOp_step hi (fun K' hK =>?_)
 rw[if_pos hw]
 exact h K' (fun a' w' hn=>hK a' w' ⟨(fun hf=>by rw[hl] at hf;cases hf),hn⟩)
theorem rL{listed:Array Bool}{a:Act}{w:World}(hr:Region.ready md ops listed=[])(h:Q .normal a w):∀ fuel,lp P md ops Q e S fuel listed a w
 | 0=>⟨hr,h⟩
 | _+1=>⟨fun _=>h,by rw[hr];simp⟩
theorem qq(e:Nat)(S:World→Prop){id:Nat}{a:Act}{w:World}(hm:P.follows .mixedOrders=true)
   (h:lp P .any ops Q e S ops.size (Array.replicate ops.size false) a w.drew):(Code.region id ops true).wp P Q a w:=
 wp_region_any hm (nZ _ _ _ _ h)
end
end
section
theorem Keep.trans'{bad bad':Nat→Prop}{a b c:World}(h:Keep bad a b)(k:Keep bad' b c)(hb:∀ i,i<a.heap.size→bad' i→bad i):Keep bad a c:=
 ⟨k.1.trans h.1,k.2.1.trans h.2.1,k.2.2.1.trans h.2.2.1,Nat.le_trans h.2.2.2.1 k.2.2.2.1,fun i hi hn=>(k.2.2.2.2 i (Nat.lt_of_lt_of_le hi h.2.2.2.1) (fun hh=>hn (hb i hi hh))).trans (h.2.2.2.2 i hi hn)⟩
theorem Keep.drew(bad:Nat→Prop)(w:World):Keep bad w w.drew:=⟨rfl,rfl,rfl,Nat.le_refl _,fun _ _ _=>rfl⟩
theorem mc{P:Program}(w:World)(base:Nat)(t ty e:TypeId)(z:Value)(size bytes:Nat)(ht:P.underlying t=some (.slice e))(hinf:(P.info? e).map (fun i=>(i.zero,i.size,i.bytes))=some (some z,size,bytes))
   (hzs:z.cells.size=size) (hsz:0<size) (v:Value) (n:Nat) (xs:List Value) (hown:w.ownsRow base e size v n xs)
   (a:Addr) (m c:Nat) (news:List Value) (hl:news.length=m*size) (hnews:∀ j u,news[j]? = some u→w.cell? (a.add j)=some u) (h1:∀ u∈news,u.oneCell'=true)
   (h63:n+m≤maxLen) (hbytes:(n+m)*bytes≤140737488355328) (hbase:base≤w.heap.size) :
   ∃ v' w',(Builtin.append_ #[t,t] ty #[v,.slice (some a) m c]).run P w=.ok v' w'∧w'.ownsRow base e size v' (n+m) (xs++news)∧w.grownBy w' v.ownBlock∧(v'.ownBlock=v.ownBlock∨v'.ownBlock=some w.heap.size):=by
 obtain⟨i,hi,hz,hsize,hby⟩:=info_parts hinf
 obtain⟨v',w',hr,h2,h3,h4⟩:=run_append_own (P:=P) w base t ty e i z size bytes ht hi hz hsize hby hzs hsz v n xs hown a m c news hl hnews h1 h63 hbytes hbase
 refine⟨v',w',hr,h2,h3,?_⟩
 clear hinf
 subst hsize
 subst hby
 have hsmall:n+m≤9223372036854775807:=by simp only [maxLen] at h63;omega
 rcases hown.2 with ⟨rfl,rfl⟩|⟨g,cap,cur,rfl,hbg,hg,hnc,hcm,hcs,htake⟩
 · by_cases hm:m=0
   · subst hm
     have:v'=.slice none 0 0:=h4.2 ⟨rfl,rfl⟩
     subst this
     exact .inl rfl
   have h5:=run_append_nil (P:=P) w t ty e i z ht hi hz a m c news hl hnews (by omega) (by omega) (by have hb:=hbytes;simp only [Nat.zero_add] at hb;omega)
   rw[h5] at hr
   injection hr with e1 e2
   subst e1
   exact .inr rfl
 by_cases hroom:n+m≤cap
 · have hfit:n*i.size+news.length≤cur.size:=by rw[hl,hcs,← Nat.add_mul];exact Nat.mul_le_mul_right _ hroom
   have h5:=run_append_room (P:=P) w t ty e i ht hi g n cap cur hg a m c news hl hnews h1 hroom hfit
   rw[h5] at hr
   injection hr with e1 e2
   subst e1
   exact .inl rfl
 have holds:∀ j u,xs[j]? = some u→w.cell? ((⟨g,0,none⟩:Addr).add j)=some u:=hown.cells (g:=g) rfl
 have h5:=run_append_grow (P:=P) w t ty e i z ht hi hz ⟨g,0,none⟩ n cap xs hown.1 holds a m c news hl hnews (by omega) (by omega) (growslice_fits (by omega) hbytes)
 rw[h5] at hr
 injection hr with e1 e2
 subst e1
 exact .inr rfl
theorem l6{w:World}{base:Nat}{e:TypeId}{size:Nat}{v:Value}{n:Nat}{xs:List Value}(h:w.ownsRow base e size v n xs):∃ p c,v=.slice p n c:=by
 rcases h.2 with ⟨rfl,rfl⟩|⟨g,cap,cur,rfl,_⟩
 · exact⟨_,_,rfl⟩
 exact⟨_,_,rfl⟩
theorem ot{P:Program}{ev:Operand→Value}{o:Oper}{W:World}(ty:TypeId)(x:Operand)(ho:o.op=.load ty x)(b off:Nat)(hx:ev x=.pointer (some ⟨b,off,none⟩))(cs:List Value)(td:TypeDesc)(hc:W.rangeAt b off cs)
   (hu:P.underlying ty=some td) (hd:td.isRow=true) (hi:(P.info? ty).map (·.size)=some cs.length):(execOp ev o).run P W=.ok (.value (.agg cs.toArray)) W:=by
 unfold execOp
 simp only [ho,hx,Instr.loadAt,Instr.sureAddr,Sem.run_bind,Sem.run_pure,Result.andThen_ok,run_loadVar_mid W b off ty cs td hc hu hd hi]
section
variable {P:Program} {ops:Array Oper} {rest:List Oper} {a:Act} {w:World} {Q:Exit→Act→World→Prop} {K:Act→World→Prop}
end
end
section
section
variable {P:Program} {ops:Array Oper} {Q:Exit→Act→World→Prop} {md:Region.Mode} {S:World→Prop} {e:Nat}
def oS(md:Region.Mode)(ops:Array Oper):Nat→List Nat→List Nat
 | 0,s=>s
 | n + 1,s=>bif s.contains n then (match ops[n]? with
     | some o=>oS md ops n ((o.after.toList.filter (fun ed=>Region.binds md ed)).map (·.on)++s)
     | none=>oS md ops n s) else oS md ops n s
theorem mw{L:Array Bool}(hc:Closed md ops L):∀ (n:Nat) (s:List Nat),(∀ x∈s,L.getD x false=true)→∀ x∈oS md ops n s,L.getD x false=true
 | 0,s,h=>h
 | n+1,s,h=>by
   unfold oS
   cases hs:s.contains n with
   | false=>exact mw hc n s h
   | true =>
     cases ho:ops[n]? with
     | none=>exact mw hc n s h
     | some o =>
       refine mw hc n _ (fun x hx =>?_)
       rcases List.mem_append.1 hx with hx|hx
       · obtain⟨ed,hed,rfl⟩:=List.mem_map.1 hx
         obtain⟨h1,h2⟩:=List.mem_filter.1 hed
         exact hc.2 n o ho (h n (by simpa using hs)) ed (by simpa using h1) h2
       exact h x hx
def rM(md:Region.Mode)(ops:Array Oper)(e i:Nat):Bool:=(oS md ops ops.size [e]).contains i
theorem rr{L:Array Bool}(hc:Closed md ops L){i:Nat}(h:rM md ops e i=true)(hl:L.getD e false=true):L.getD i false=true:=
 mw hc ops.size [e] (fun x hx=>by rw[List.mem_singleton.1 hx];exact hl) i (by simpa [rM] using h)
theorem qI{i:Nat}{oi:Oper}{v:Value}(hi:ops[i]? = some oi)(hsel:∀ (j:Nat) (o:Oper) cs b,ops[j]? = some o→o.op≠.select cs b)
   (hQ:∀ c a w,Q (.panic c) (a.put oi.dst v) w→Q (.panic c) a w) (hreach:rM md ops e i=true) (hei:i≠e) :
   ∀ (fuel:Nat) (listed:Array Bool) (a:Act) (w:World),Closed md ops listed→
     (∀ j oj,ops[j]? = some oj→j≠i→listed.getD j true=false→(∀ ed∈oj.after,Region.binds md ed=true→ed.on≠i)→oi.apart ops oj=true)→
     i∈Region.ready md ops listed→YieldsIf P ops S oi v a→S w→
     lp P md ops Q e S fuel (listed.setIfInBounds i true) (a.put oi.dst v) w→lp P md ops Q e S (fuel+1) listed a w:=by
 intro fuel
 induction fuel with
 | zero =>
   intro listed a w hc _ hr hy hS H
   refine⟨fun h=>(by rw[h] at hr;cases hr),fun j hj =>?_⟩
   by_cases hji:j=i
   · subst hji;exact hy.wpOp hi hS ⟨fun _=>hS,H⟩
   have:=ready_mono hj hji
   rw[H.1] at this
   cases this
 | succ fuel ih =>
   intro listed a w hc hfree hr hy hS H
   refine⟨fun h=>(by rw[h] at hr;cases hr),fun j hj =>?_⟩
   by_cases hji:j=i
   · subst hji;exact hy.wpOp hi hS ⟨fun _=>hS,H⟩
   have h1:=H.2 j (ready_mono hj hji)
   obtain⟨hjun,oj,hoj,hall⟩:=mem_ready.1 hj
   have hnot:∀ ed∈oj.after,Region.binds md ed=true→ed.on≠i:=fun ed he hb heq=>by
     have h1:=hall ed he hb
     have h0:=(mem_ready.1 hr).1
     rw[heq,getD_both h0] at h1
     cases h1
   have h2:=wpOp_putIf hoj (hfree j oj hoj hji hjun hnot) (fun cs b=>hsel i oi cs b hi) (fun cs b=>hsel j oj cs b hoj) hQ hy h1
   have hfree':∀ k ok,ops[k]? = some ok→k≠i→(listed.setIfInBounds j true).getD k true=false→
       (∀ ed∈ok.after,Region.binds md ed=true→ed.on≠i)→oi.apart ops ok=true:=fun k ok hk hki hun hno=>by
     refine hfree k ok hk hki ?_ hno
     by_cases hjk:j=k
     · subst hjk;exact hjun
     rw[getD_set_ne true hjk] at hun;exact hun
   have hc':=hc.set hj
   have hr':=ready_mono hr (Ne.symm hji)
   have hen:(listed.setIfInBounds j true).getD e false=false:=by
     cases hq:(listed.setIfInBounds j true).getD e false with
     | false=>rfl
     | true =>
       have:=rr hc' hreach hq
       rw[getD_both (mem_ready.1 hr').1] at this
       cases this
   refine wpOp_mono (fun a' w' h3 =>?_) h2
   have hS':S w':=h3.2.1 (by rw[Array.setIfInBounds_comm _ _ (Ne.symm hji),getD_set_ne false hei];exact hen)
   refine⟨fun _=>hS',ih (listed.setIfInBounds j true) a' w' hc' hfree' hr' h3.1 hS' ?_⟩
   rw[Array.setIfInBounds_comm _ _ hji]
   exact h3.2.2
theorem rN(i:Nat)(d:Option Tmp){oi:Oper}{v:Value}{fuel:Nat}{listed:Array Bool}{a:Act}{w:World}(hS:S w)(hi:ops[i]? = some oi)(hd:oi.dst=d)
   (hs:Region.noSelect ops=true) (hf:Region.free md ops listed i=true) (hr:(Region.ready md ops listed).contains i=true)
   (hc:nc md ops listed=true) (hre:(rM md ops e i && decide (i≠e))=true)
   (hQ:∀ c a w,Q (.panic c) (a.put d v) w→Q (.panic c) a w) (hw:Region.wanted oi (yielded ops a.tmps)=true)
   (hy:∀ W,S W→(execOp a.eval oi).run P W=.ok (.value v) W)
   (h:lp P md ops Q e S fuel (listed.setIfInBounds i true) (a.put d v) w):lp P md ops Q e S (fuel+1) listed a w:=by
 subst hd
 simp only [Bool.and_eq_true,decide_eq_true_eq] at hre
 exact qI hi (Region.noSelect_spec hs) hQ hre.1 hre.2 fuel listed a w (nG hc) (Region.free_spec hi hf) (by simpa using hr) (.inl ⟨hw,hy⟩) hS h
end
end
section
inductive D where
 | v (x:Value)
 | ns (k:IntKind) (zs:List Int)
 | l (m:Nat) (rows:List (List D))
def NumsS(S:Nat→Prop)(k:IntKind)(w:World)(v:Value)(zs:List Int):Prop:=
 ∃ a c,v=.slice a zs.length c∧(zs.length≤c∧c≤maxLen)∧(zs.length=0∨∃ b off,a=some ⟨b,off,none⟩∧S b∧b<w.heap.size∧∀ j,j<zs.length→w.cell? ⟨b,off+j,none⟩=some (.int k (zs.getD j 0)))
inductive Rd (S:Nat→Prop) (w:World):Value→D→Prop
 | v (x:Value):Rd S w x (.v x)
 | ns {k:IntKind} {v:Value} {zs:List Int} (h:NumsS S k w v zs):Rd S w v (.ns k zs)
 | l0 (a:Option Addr) (c m:Nat):Rd S w (.slice a 0 c) (.l m [])
 | l (m b off c:Nat) (rows:List (List D)) (f:Nat→Nat→Value) (hS:S b) (hb:b<w.heap.size) (hc:rows.length≤c) (hm:∀ r∈rows,r.length=m)
     (hcell:∀ j q,j<rows.length→q<m→w.cell? ⟨b,off+j*m+q,none⟩=some (f j q)∧(f j q).oneCell'=true)
     (hr:∀ j q r d,rows[j]? = some r→r[q]? = some d→Rd S w (f j q) d):Rd S w (.slice (some ⟨b,off,none⟩) rows.length c) (.l m rows)
theorem NumsS.mono{S S':Nat→Prop}{k:IntKind}{w W:World}{v:Value}{zs:List Int}(h:NumsS S k w v zs)(hs:w.heap.size≤W.heap.size)(hk:∀ b,b<w.heap.size→S b→W.heap[b]? = w.heap[b]?∧S' b):NumsS S' k W v zs:=by
 obtain⟨a,c,rfl,hc,h0|⟨b,off,rfl,h1,h2,h3⟩⟩:=h
 · exact⟨a,c,rfl,hc,.inl h0⟩
 exact⟨_,c,rfl,hc,.inr ⟨b,off,rfl,(hk b h2 h1).2,Nat.lt_of_lt_of_le h2 hs,fun j hj=>by rw[World.cell?_of_block (w:=w) (hk b h2 h1).1];exact h3 j hj⟩⟩
theorem Rd.mono{S S':Nat→Prop}{w W:World}{v:Value}{d:D}(h:Rd S w v d)(hs:w.heap.size≤W.heap.size)(hk:∀ b,b<w.heap.size→S b→W.heap[b]? = w.heap[b]?∧S' b):Rd S' W v d:=by
 induction h with
 | v x=>exact .v x
 | ns h=>exact .ns (h.mono hs hk)
 | l0 a c m=>exact .l0 a c m
 | l m b off c rows f hS hb hc hm hcell hr ih =>
   exact .l m b off c rows f (hk b hb hS).2 (Nat.lt_of_lt_of_le hb hs) hc hm (fun j q hj hq=>by rw[World.cell?_of_block (w:=w) (hk b hb hS).1];exact hcell j q hj hq) ih
def OwnsAt(w:World)(base:Nat)(e:TypeId)(size:Nat)(v:Value)(n:Nat)(xs:List Value):Prop:=
 xs.length=n*size∧
 ((v=.slice none 0 0∧n=0)∨
  ∃ g off cap cur,v=.slice (some ⟨g,off,none⟩) n cap∧base≤g∧w.heap[g]? = some (.cells cur e (0,0))∧n≤cap∧cap≤maxLen∧off+cap*size≤cur.size∧(cur.toList.drop off).take (n*size)=xs)
theorem OwnsAt.of{w:World}{base:Nat}{e:TypeId}{size:Nat}{v:Value}{n:Nat}{xs:List Value}(h:w.ownsRow base e size v n xs):OwnsAt w base e size v n xs:=by
 refine⟨h.1,?_⟩
 rcases h.2 with h|⟨g,cap,cur,h1,h2,h3,h4,h5,h6,h7⟩
 · exact .inl h
 exact .inr ⟨g,0,cap,cur,h1,h2,h3,h4,h5,by omega,by simpa using h7⟩
theorem OwnsAt.at{w W:World}{base:Nat}{e:TypeId}{size:Nat}{v:Value}{n:Nat}{xs:List Value}(h:OwnsAt w base e size v n xs)(hb:∀ k,v.ownBlock=some k→W.heap[k]? = w.heap[k]?):OwnsAt W base e size v n xs:=by
 refine⟨h.1,?_⟩
 rcases h.2 with hn|⟨g,off,cap,cur,rfl,hbg,hgg,rest⟩
 · exact .inl hn
 refine .inr ⟨g,off,cap,cur,rfl,hbg,?_,rest⟩
 rw[hb g rfl];exact hgg
theorem OwnsAt.lt{w:World}{base:Nat}{e:TypeId}{size:Nat}{v:Value}{n:Nat}{xs:List Value}(h:OwnsAt w base e size v n xs)(b:Nat)(hb:v.ownBlock=some b):base≤b∧b<w.heap.size:=by
 rcases h.2 with ⟨rfl,_⟩|⟨g,off,cap,cur,rfl,hbg,hgg,_⟩
 · cases hb
 injection hb with hb;subst hb
 exact⟨hbg,(Array.getElem?_eq_some_iff.1 hgg).1⟩
def SegOk(S:Nat→Prop)(w:World)(v:Value)(e:TypeId)(m:Nat)(rows:List (List D)):Prop:=
 ∃ cs:List (List Value),OwnsAt w 0 e m v rows.length cs.flatten∧cs.length=rows.length∧(∀ c∈cs,c.length=m∧∀ x∈c,x.oneCell'=true)∧(∀ r∈rows,r.length=m)∧
   ∀ (j q:Nat) (c:List Value) (r:List D) (x:Value) (d:D),cs[j]? = some c→rows[j]? = some r→c[q]? = some x→r[q]? = some d→Rd S w x d
inductive Res where
 | dat (v:Value) (d:D)
 | box (g:Nat) (e:TypeId) (cs:List Value)
 | num (v:Value) (e:TypeId) (k:IntKind) (zs:List Int)
 | row (v:Value) (e:TypeId) (m:Nat) (rows:List (List D))
 | cel (b o:Nat) (vs:List Value)
 | rowC (v:Value) (e:TypeId) (m:Nat) (rows:List (List D)) (cs:List (List Value))
 | seg (v:Value) (e:TypeId) (m:Nat) (rows:List (List D))
 | any (g:Nat)
 | gone
def Res.blk:Res→Option Nat
 | .box g _ _=>some g
 | .num v _ _ _=>v.ownBlock
 | .row v _ _ _=>v.ownBlock
 | .rowC v _ _ _ _=>v.ownBlock
 | .seg v _ _ _=>v.ownBlock
 | .any g=>some g
 | _=>none
def RowOk(N:Nat)(S:Nat→Prop)(w:World)(v:Value)(e:TypeId)(m:Nat)(rows:List (List D)):Prop:=
 ∃ cs:List (List Value),w.ownsRow N e m v rows.length cs.flatten∧cs.length=rows.length∧(∀ c∈cs,c.length=m∧∀ x∈c,x.oneCell'=true)∧(∀ r∈rows,r.length=m)∧
   ∀ (j q:Nat) (c:List Value) (r:List D) (x:Value) (d:D),cs[j]? = some c→rows[j]? = some r→c[q]? = some x→r[q]? = some d→Rd S w x d
def zb(N:Nat)(S:Nat→Prop)(w:World)(v:Value)(e:TypeId)(m:Nat)(rows:List (List D))(cs:List (List Value)):Prop:=
 w.ownsRow N e m v rows.length cs.flatten∧cs.length=rows.length∧(∀ c∈cs,c.length=m∧∀ x∈c,x.oneCell'=true)∧(∀ r∈rows,r.length=m)∧
   ∀ (j q:Nat) (c:List Value) (r:List D) (x:Value) (d:D),cs[j]? = some c→rows[j]? = some r→c[q]? = some x→r[q]? = some d→Rd S w x d
def Res.ok(N:Nat)(X:List Nat)(S:Nat→Prop)(w:World):Res→Prop
 | .dat v d=>Rd S w v d
 | .box g e cs=>Blk w g e cs∧(N≤g∨g∈X)
 | .num v e k zs=>w.ownsRow N e 1 v zs.length (zs.map (Value.int k))
 | .row v e m rows=>RowOk N S w v e m rows
 | .rowC v e m rows cs=>zb N S w v e m rows cs
 | .seg v e m rows=>SegOk S w v e m rows∧∀ b,v.ownBlock=some b→N≤b∨b∈X
 | .cel b o vs=>S b∧b<w.heap.size∧w.rangeAt b o vs
 | .any g=>g<w.heap.size∧(N≤g∨g∈X)
 | .gone=>True
def lk{α:Type}:List (Nat×α)→Nat→Option α
 | [],_=>none
 | (k,x) :: t,i=>bif Nat.beq k i then some x else lk t i
theorem lT{α:Type}(k:Nat)(x:α)(t:List (Nat×α))(i:Nat):lk ((k,x) :: t) i=if k=i then some x else lk t i:=by
 show(bif Nat.beq k i then some x else lk t i)=_
 by_cases h:k=i
 · rw[if_pos h,h,show Nat.beq i i=true from Nat.beq_refl i];rfl
 rw[if_neg h,show Nat.beq k i=false from by cases hb:Nat.beq k i with|false=>rfl|true=>exact absurd (Nat.eq_of_beq_eq_true hb) h];rfl
abbrev Mm:=List (Nat×Res)
def Own(M:Mm)(b:Nat):Prop:=∃ i r,lk M i=some r∧r.blk=some b
structure Cx where
 bad:List Nat
 Z:Nat→Prop
def mP(X:Cx)(M:Mm)(b:Nat):Prop:=X.Z b∧¬ Own M b
structure MemOk (X:Cx) (w0:World) (M:Mm) (w:World):Prop where
 keep:Keep (·∈X.bad) w0 w
 fresh:∀ b,w0.heap.size≤b→X.Z b
 ok:∀ i r,lk M i=some r→r.ok w0.heap.size X.bad (mP X M) w
 sep:∀ i j r s b,lk M i=some r→lk M j=some s→r.blk=some b→s.blk=some b→i=j
theorem t0{w W:World}{base:Nat}{e:TypeId}{size:Nat}{v:Value}{n:Nat}{xs:List Value}(h:w.ownsRow base e size v n xs)(hb:∀ k,v.ownBlock=some k→W.heap[k]? = w.heap[k]?):W.ownsRow base e size v n xs:=by
 refine⟨h.1,?_⟩
 rcases h.2 with hn|⟨g,cap,cur,rfl,hbg,hgg,rest⟩
 · exact .inl hn
 refine .inr ⟨g,cap,cur,rfl,hbg,?_,rest⟩
 rw[hb g rfl]
 exact hgg
theorem Res.ok_mono{N:Nat}{X:List Nat}{S S':Nat→Prop}{w W:World}{r:Res}(h:r.ok N X S w)(hs:w.heap.size≤W.heap.size)(hk:∀ b,b<w.heap.size→S b→W.heap[b]? = w.heap[b]?∧S' b)(hb:∀ b,r.blk=some b→W.heap[b]? = w.heap[b]?):r.ok N X S' W:=by
 cases r with
 | dat v d=>exact Rd.mono h hs hk
 | box g e cs=>exact⟨(hb g rfl).trans h.1,h.2⟩
 | num v e k zs=>exact t0 h hb
 | row v e m rows =>
   obtain⟨cs,h1,h2,h3,h4,h5⟩:=h
   exact⟨cs,t0 h1 hb,h2,h3,h4,fun j q c r x d a1 a2 a3 a4=>(h5 j q c r x d a1 a2 a3 a4).mono hs hk⟩
 | rowC v e m rows cs =>
   obtain⟨h1,h2,h3,h4,h5⟩:=h
   exact⟨t0 h1 hb,h2,h3,h4,fun j q c r x d a1 a2 a3 a4=>(h5 j q c r x d a1 a2 a3 a4).mono hs hk⟩
 | seg v e m rows =>
   obtain⟨⟨cs,h1,h2,h3,h4,h5⟩,hx⟩:=h
   exact⟨⟨cs,h1.at hb,h2,h3,h4,fun j q c r x d a1 a2 a3 a4=>(h5 j q c r x d a1 a2 a3 a4).mono hs hk⟩,hx⟩
 | cel b o vs=>exact⟨(hk b h.2.1 h.1).2,Nat.lt_of_lt_of_le h.2.1 hs,fun j v hj=>by rw[World.cell?_of_block (w:=w) (hk b h.2.1 h.1).1];exact h.2.2 j v hj⟩
 | any g=>exact⟨Nat.lt_of_lt_of_le h.1 hs,h.2⟩
 | gone=>trivial
theorem Res.blk_lt{N:Nat}{X:List Nat}{S:Nat→Prop}{w:World}{r:Res}(h:r.ok N X S w){b:Nat}(hb:r.blk=some b):b<w.heap.size∧(N≤b∨b∈X):=by
 cases r with
 | dat v d=>cases hb
 | box g e cs=>injection hb with hb;subst hb;exact⟨h.1.lt,h.2⟩
 | num v e k zs=>have:=World.ownsRow.lt h b hb;exact⟨this.2,.inl this.1⟩
 | seg v e m rows=>obtain⟨⟨cs,h1,_⟩,hx⟩:=h;exact⟨(h1.lt b hb).2,hx b hb⟩
 | rowC v e m rows cs=>have:=World.ownsRow.lt h.1 b hb;exact⟨this.2,.inl this.1⟩
 | row v e m rows=>obtain⟨cs,h1,_⟩:=h;have:=World.ownsRow.lt h1 b hb;exact⟨this.2,.inl this.1⟩
 | cel b o vs=>cases hb
 | any g=>injection hb with hb;subst hb;exact h
 | gone=>cases hb
section
variable {X:Cx} {w0:World} {M:Mm} {w:World}
theorem MemOk.later(m:MemOk X w0 M w){w':World}(hb:Below w.heap.size w w'):MemOk X w0 M w' where
 keep:=m.keep.trans' (bad':=fun _=>False) (Keep.ofBelow hb) (fun _ _ h=>h.elim)
 fresh:=m.fresh
 ok i r h:=Res.ok_mono (m.ok i r h) hb.size (fun b hlt hS=>⟨hb.block b hlt,hS⟩) (fun b hbk=>hb.block b (Res.blk_lt (m.ok i r h) hbk).1)
 sep:=m.sep
theorem MemOk.upd(m:MemOk X w0 M w)(i:Nat)(r':Res){w':World}(hk:Keep (fun b => ∃ r,lk M i=some r∧r.blk=some b) w w')(hb:∀ b,r'.blk=some b→(∃ r,lk M i=some r∧r.blk=some b)∨w.heap.size≤b)
   (hok:(∀ b,b<w.heap.size→mP X M b→mP X ((i,r') :: M) b)→(∀ b,(∃ r,lk M i=some r∧r.blk=some b)→w0.heap.size≤b→(∀ c,r'.blk=some c→c≠b)→mP X ((i,r') :: M) b)→r'.ok w0.heap.size X.bad (mP X ((i,r') :: M)) w'):MemOk X w0 ((i,r') :: M) w':=by
 have hfree:∀ b,b<w.heap.size→mP X M b→mP X ((i,r') :: M) b:=by
   rintro b hlt ⟨hz,hf⟩
   refine⟨hz,?_⟩
   rintro⟨j,s,hj,hs⟩
   rw[lT] at hj
   split at hj
   · injection hj with hj;subst hj
     rcases hb b hs with ⟨r,h1,h2⟩|h
     · exact hf ⟨i,r,h1,h2⟩
     omega
   exact hf ⟨j,s,hj,hs⟩
 have hold:∀ b,(∃ r,lk M i=some r∧r.blk=some b)→w0.heap.size≤b→(∀ c,r'.blk=some c→c≠b)→mP X ((i,r') :: M) b:=by
   rintro b ⟨r,h1,h2⟩ hN hc
   refine⟨m.fresh b hN,?_⟩
   rintro⟨j,s,hj,hs⟩
   rw[lT] at hj
   split at hj
   · injection hj with hj;subst hj
     exact hc b hs rfl
   rename_i hne
   exact hne (m.sep i j r s b h1 hj h2 hs)
 refine⟨m.keep.trans' hk ?_,m.fresh,?_,?_⟩
 · rintro b hlt ⟨r,h1,h2⟩
   rcases(Res.blk_lt (m.ok i r h1) h2).2 with h|h
   · omega
   exact h
 · intro j s hj
   rw[lT] at hj
   split at hj
   · injection hj with hj;subst hj
     exact hok hfree hold
   rename_i hne
   refine Res.ok_mono (m.ok j s hj) hk.size (fun b hlt hS=>⟨hk.2.2.2.2 b hlt ?_,hfree b hlt hS⟩) (fun b hbk=>hk.2.2.2.2 b (Res.blk_lt (m.ok j s hj) hbk).1 ?_)
   · rintro⟨r,h1,h2⟩;exact hS.2 ⟨i,r,h1,h2⟩
   rintro⟨r,h1,h2⟩;exact hne (m.sep i j r s b h1 hj h2 hbk)
 intro p q r s b hp hq hr hs
 rw[lT] at hp hq
 split at hp <;> split at hq
 · omega
 · rename_i h1 h2
   injection hp with hp;subst hp
   rcases hb b hr with ⟨r0,h3,h4⟩|h
   · rw[← h1];exact m.sep i q r0 s b h3 hq h4 hs
   have:=(Res.blk_lt (m.ok q s hq) hs).1;omega
 · rename_i h1 h2
   injection hq with hq;subst hq
   rcases hb b hs with ⟨r0,h3,h4⟩|h
   · rw[← h2];exact m.sep p i r r0 b hp h3 hr h4
   have:=(Res.blk_lt (m.ok p r hp) hr).1;omega
 exact m.sep p q r s b hp hq hr hs
theorem MemOk.sub(m:MemOk X w0 M w){M':Mm}(h:∀ i r,lk M' i=some r→lk M i=some r):MemOk X w0 M' w where
 keep:=m.keep
 fresh:=m.fresh
 ok i r hi:=Res.ok_mono (m.ok i r (h i r hi)) (Nat.le_refl _) (fun b _ hS=>⟨rfl,hS.1,fun⟨j,s,hj,hs⟩=>hS.2 ⟨j,s,h j s hj,hs⟩⟩) (fun _ _=>rfl)
 sep i j r s b h1 h2:=m.sep i j r s b (h i r h1) (h j s h2)
theorem MemOk.drew(m:MemOk X w0 M w):MemOk X w0 M w.drew:=m.later ((Below.refl _ w).drew)
theorem MemOk.dat(m:MemOk X w0 M w)(i:Nat)(hi:lk M i=none){v:Value}{d:D}(h:Rd (mP X M) w v d):MemOk X w0 ((i,.dat v d) :: M) w:=
 m.upd i (.dat v d) (Keep.refl _ _) (fun b hb=>by cases hb) (fun h1 _=>h.mono (Nat.le_refl _) (fun b hlt hS=>⟨rfl,h1 b hlt hS⟩))
theorem MemOk.box(m:MemOk X w0 M w)(i:Nat)(e:TypeId)(cs:Array Value):MemOk X w0 ((i,.box w.heap.size e cs.toList) :: M) (w.alloc (.cells cs e)):=
 m.upd i _ (Keep.alloc _ _ _) (fun b hb=>.inr (by injection hb with hb;omega)) (fun _ _=>⟨Blk.alloc w e cs,.inl m.keep.size⟩)
theorem t5{N:Nat}{S:Nat→Prop}{w:World}{v:Value}{e:TypeId}{k:IntKind}{zs:List Int}(h:w.ownsRow N e 1 v zs.length (zs.map (Value.int k)))(hS:∀ b,v.ownBlock=some b→S b):NumsS S k w v zs:=by
 rcases h.2 with ⟨rfl,h0⟩|⟨g,cap,cur,rfl,hg,hbk,h1,h2,h3,h4⟩
 · exact⟨none,0,by rw[h0],⟨by omega,by unfold maxLen;omega⟩,.inl h0⟩
 have hlt:=(Array.getElem?_eq_some_iff.1 hbk).1
 refine⟨_,cap,rfl,⟨h1,h2⟩,.inr ⟨g,0,rfl,hS g rfl,hlt,fun j hj =>?_⟩⟩
 have:=h.cellAt j (by omega)
 rw[Nat.zero_add,this]
 simp [hj,List.getD]
theorem l5{α:Type}{m:Nat}:∀ (cs:List (List α)) (j q:Nat) (c:List α),(∀ c∈cs,c.length=m)→cs[j]? = some c→q<m→cs.flatten[j*m+q]? = c[q]?
 | [],j,q,c,_,hj,_=>by simp at hj
 | a :: cs,0,q,c,h,hj,hq=>by
   have ha:=h a (by simp)
   simp at hj;subst hj
   rw[List.flatten_cons,Nat.zero_mul,Nat.zero_add,List.getElem?_append_left (by omega)]
 | a :: cs,j+1,q,c,h,hj,hq=>by
   have ha:=h a (by simp)
   rw[List.flatten_cons,List.getElem?_append_right (by rw[ha,Nat.add_mul];omega),ha,show(j+1)*m+q - m=j*m+q by rw[Nat.add_mul];omega]
   exact l5 cs j q c (fun c hc=>h c (by simp [hc])) (by simpa using hj) hq
theorem zc{N:Nat}{S S':Nat→Prop}{w:World}{v:Value}{e:TypeId}{m:Nat}{rows:List (List D)}(h:RowOk N S w v e m rows)(hS:∀ b,b<w.heap.size→S b→S' b)(hv:∀ b,v.ownBlock=some b→S' b):Rd S' w v (.l m rows):=by
 obtain⟨cs,h1,h2,h3,h4,h5⟩:=h
 rcases h1.2 with ⟨rfl,h0⟩|⟨g,cap,cur,rfl,hg,hbk,hcap,h7,h8,h9⟩
 · obtain rfl:=List.length_eq_zero_iff.1 h0
   exact .l0 none 0 m
 have hlt:=(Array.getElem?_eq_some_iff.1 hbk).1
 refine .l m g 0 cap rows (fun j q=>(cs.flatten[j*m+q]?).getD undef) (hv g rfl) hlt hcap h4 (fun j q hj hq =>?_) (fun j q r d hj hq =>?_)
 · have hjc:j<cs.length:=by omega
   have hc:cs[j]? = some cs[j]:=List.getElem?_eq_getElem hjc
   have hm:=(h3 cs[j] (List.getElem_mem hjc)).1
   have hx:cs[j][q]? = some (cs[j][q]'(by omega)):=List.getElem?_eq_getElem (by omega)
   have hf:=l5 cs j q cs[j] (fun c hc=>(h3 c hc).1) hc hq
   have:=h1.cellAt (j*m+q) (by calc j*m+q<j*m+m:=by omega
       _=(j+1)*m:=by rw[Nat.add_mul];omega
       _≤rows.length*m:=Nat.mul_le_mul_right _ (by omega))
   rw[Nat.zero_add,this,hf,hx]
   exact⟨rfl,(h3 cs[j] (List.getElem_mem hjc)).2 _ (List.getElem_mem _)⟩
 have hjr:=(List.getElem?_eq_some_iff.1 hj).1
 have hjc:j<cs.length:=by omega
 have hc:cs[j]? = some cs[j]:=List.getElem?_eq_getElem hjc
 have hm:=(h3 cs[j] (List.getElem_mem hjc)).1
 have hqr:=(List.getElem?_eq_some_iff.1 hq).1
 have hrm:=h4 r (List.mem_of_getElem? hj)
 have hx:cs[j][q]? = some (cs[j][q]'(by omega)):=List.getElem?_eq_getElem (by omega)
 have hf:=l5 cs j q cs[j] (fun c hc=>(h3 c hc).1) hc (by omega)
 show Rd S' w ((cs.flatten[j*m+q]?).getD undef) d
 rw[hf,hx]
 exact(h5 j q cs[j] r _ d hc hj hx hq).mono (Nat.le_refl _) (fun b hlt hs=>⟨rfl,hS b hlt hs⟩)
theorem MemOk.cel(m:MemOk X w0 M w)(i:Nat)(hi:lk M i=none){b o:Nat}{vs:List Value}(h1:mP X M b)(h2:b<w.heap.size)(h3:w.rangeAt b o vs):MemOk X w0 ((i,.cel b o vs) :: M) w:=
 m.upd i (.cel b o vs) (Keep.refl _ _) (fun b hb=>by cases hb) (fun h _=>⟨h b h2 h1,h2,h3⟩)
theorem MemOk.nilN(m:MemOk X w0 M w)(i:Nat)(e:TypeId)(k:IntKind):MemOk X w0 ((i,.num (.slice none 0 0) e k []) :: M) w:=
 m.upd i _ (Keep.refl _ _) (fun b hb=>by cases hb) (fun _ _=>World.ownsRow_nil _ _ _ _)
theorem MemOk.nilR(m:MemOk X w0 M w)(i:Nat)(e:TypeId)(k:Nat):MemOk X w0 ((i,.row (.slice none 0 0) e k []) :: M) w:=
 m.upd i _ (Keep.refl _ _) (fun b hb=>by cases hb) (fun _ _=>⟨[],World.ownsRow_nil _ _ _ _,rfl,by simp,by simp,by simp⟩)
theorem MemOk.newN(m:MemOk X w0 M w)(i:Nat){w':World}(hb:Below w.heap.size w w'){v:Value}{e:TypeId}{k:IntKind}{zs:List Int}(h:w'.ownsRow w.heap.size e 1 v zs.length (zs.map (Value.int k))):MemOk X w0 ((i,.num v e k zs) :: M) w':=
 m.upd i _ ((Keep.ofBelow (bad:=fun _=>False) hb).mono (fun _ h=>h.elim)) (fun b hb=>.inr (h.lt b hb).1) (fun _ _=>by
   refine⟨h.1,?_⟩
   rcases h.2 with hn|⟨g,cap,cur,e1,hg,rest⟩
   · exact .inl hn
   exact .inr ⟨g,cap,cur,e1,Nat.le_trans m.keep.size hg,rest⟩)
theorem MemOk.newR(m:MemOk X w0 M w)(i:Nat){w':World}(hb:Below w.heap.size w w'){v:Value}{e:TypeId}{k:Nat}{rows:List (List D)}(h:RowOk w.heap.size (fun b=>(mP X M b∧b<w.heap.size)∨w.heap.size≤b∧v.ownBlock≠some b) w' v e k rows):MemOk X w0 ((i,.row v e k rows) :: M) w':=
 m.upd i _ ((Keep.ofBelow (bad:=fun _=>False) hb).mono (fun _ h=>h.elim)) (fun b hb=>.inr (by obtain⟨cs,h1,_⟩:=h;exact(h1.lt b hb).1)) (fun hf _=>by
   obtain⟨cs,h1,h2,h3,h4,h5⟩:=h
   refine⟨cs,⟨h1.1,?_⟩,h2,h3,h4,fun j q c r x d a1 a2 a3 a4=>(h5 j q c r x d a1 a2 a3 a4).mono (Nat.le_refl _) (fun b hlt hS=>⟨rfl,?_⟩)⟩
   · rcases h1.2 with hn|⟨g,cap,cur,e1,hg,rest⟩
     · exact .inl hn
     exact .inr ⟨g,cap,cur,e1,Nat.le_trans m.keep.size hg,rest⟩
   rcases hS with ⟨hS,hlt⟩|⟨hge,hne⟩
   · exact hf b hlt hS
   refine⟨m.fresh b (Nat.le_trans m.keep.size hge),?_⟩
   rintro⟨j,s,hj,hs⟩
   rw[lT] at hj
   split at hj
   · injection hj with hj;subst hj;exact hne hs
   have:=(Res.blk_lt (m.ok j s hj) hs).1;omega)
theorem MemOk.freezeN(m:MemOk X w0 M w)(i:Nat){v:Value}{e:TypeId}{k:IntKind}{zs:List Int}(h:lk M i=some (.num v e k zs)):MemOk X w0 ((i,.dat v (.ns k zs)) :: M) w:=
 m.upd i _ (Keep.refl _ _) (fun b hb=>by cases hb) (fun _ h2=>.ns (t5 (m.ok i _ h) (fun b hb=>h2 b ⟨_,h,hb⟩ (World.ownsRow.lt (m.ok i _ h) b hb).1 (fun c hc=>by cases hc))))
theorem MemOk.freezeR(m:MemOk X w0 M w)(i:Nat){v:Value}{e:TypeId}{k:Nat}{rows:List (List D)}(h:lk M i=some (.row v e k rows)):MemOk X w0 ((i,.dat v (.l k rows)) :: M) w:=
 m.upd i _ (Keep.refl _ _) (fun b hb=>by cases hb) (fun h1 h2=>zc (m.ok i _ h) h1 (fun b hb=>h2 b ⟨_,h,hb⟩ (by obtain⟨cs,q,_⟩:=m.ok i _ h;exact(World.ownsRow.lt q b hb).1) (fun c hc=>by cases hc)))
end
end
section
abbrev Ver:=Int×List Int
abbrev v0:Ver:=(0,[])
def upN(h:List Ver)(t:Int):Nat:=(h.takeWhile fun v=>decide (v.1≤t)).length
def Rise(h:List Ver):Prop:=h.Pairwise fun a b=>a.1<b.1
def lr(h:List Ver)(f:Int):List Ver:=h.drop (upN h f - 1)
def mN(h:List Ver)(s:Int)(d:List Int):List Ver:=if (1≤s∧s≤1099511627776)∧(h=[]∨(h.getD (h.length - 1) v0).1<s) then h++[(s,d)] else h
def atF(h:List Ver)(t:Int):Option (List Int):=if upN h t=0 then none else some (h.getD (upN h t - 1) v0).2
theorem sd(t:Int):upN [] t=0:=rfl
theorem mu(v:Ver)(h:List Ver)(t:Int):upN (v :: h) t=if v.1≤t then upN h t+1 else 0:=by
 unfold upN
 rw[List.takeWhile_cons]
 by_cases hv:v.1≤t
 · rw[if_pos hv,if_pos (by simpa using hv)];rfl
 rw[if_neg hv,if_neg (by simpa using hv)];rfl
theorem rb:∀ (h:List Ver) (t:Int),upN h t≤h.length
 | [],_=>Nat.le_refl _
 | v :: h,t=>by
   rw[mu,List.length_cons]
   split
   · have:=rb h t;omega
   omega
theorem xu{t:Int}:∀ {h:List Ver} {i:Nat},(∀ q,q<i→(h.getD q v0).1≤t)→(i<h.length→t<(h.getD i v0).1)→i≤h.length→upN h t=i
 | [],i,_,_,hi=>by simp at hi;subst hi;rfl
 | v :: h,0,_,h2,_=>by
   have:=h2 (by simp)
   rw[mu,if_neg (by simpa using this)]
 | v :: h,i+1,h1,h2,hi=>by
   have hv:v.1≤t:=by simpa using h1 0 (by omega)
   rw[mu,if_pos hv,xu (i:=i) (fun q hq=>by have:=h1 (q+1) (by omega);simpa using this) (fun hq=>by have:=h2 (by rw[List.length_cons];omega);simpa using this) (by rw[List.length_cons] at hi;omega)]
theorem rj{t:Int}:∀ {h:List Ver} {q:Nat},q<upN h t→(h.getD q v0).1≤t
 | [],q,hq=>by rw[sd] at hq;omega
 | v :: h,q,hq=>by
   rw[mu] at hq
   split at hq
   · rename_i hv
     cases q with
     | zero=>simpa using hv
     | succ q=>have:=rj (t:=t) (h:=h) (q:=q) (by omega);simpa using this
   omega
theorem xz{t:Int}:∀ {h:List Ver},upN h t<h.length→t<(h.getD (upN h t) v0).1
 | [],hq=>by simp at hq
 | v :: h,hq=>by
   rw[mu] at hq ⊢
   split
   · rename_i hv
     rw[if_pos hv] at hq
     have:=xz (t:=t) (h:=h) (by rw[List.length_cons] at hq;omega)
     simpa using this
   rename_i hv
   simpa using hv
theorem Rise.lt{h:List Ver}(hr:Rise h){i j:Nat}(hij:i<j)(hj:j<h.length):(h.getD i v0).1<(h.getD j v0).1:=by
 have:=List.pairwise_iff_getElem.1 hr i j (by omega) hj hij
 rw[List.getD,List.getD,List.getElem?_eq_getElem hj,List.getElem?_eq_getElem (by omega)]
 exact this
theorem Rise.above{h:List Ver}(hr:Rise h){t:Int}{j:Nat}(hj:j<h.length)(hu:upN h t≤j):t<(h.getD j v0).1:=by
 have h1:=xz (h:=h) (t:=t) (by omega)
 rcases Nat.lt_or_ge (upN h t) j with h2|h2
 · have:=hr.lt h2 hj;omega
 obtain rfl:upN h t=j:=by omega
 exact h1
theorem wi{h:List Ver}{t:Int}:∀ {k:Nat},k≤upN h t→upN (h.drop k) t=upN h t - k:=by
 intro k
 induction k generalizing h with
 | zero=>intro _;rfl
 | succ k ih =>
   intro hk
   cases h with
   | nil=>rw[sd] at hk;omega
   | cons v h =>
     rw[mu] at hk ⊢
     split at hk
     · rename_i hv
       rw[List.drop_succ_cons,ih (by omega),if_pos hv];omega
     omega
theorem wj{h:List Ver}{s t:Int}(hst:s≤t):upN h s≤upN h t:=by
 induction h with
 | nil=>exact Nat.le_refl _
 | cons v h ih =>
   rw[mu,mu]
   split
   · rw[if_pos (by omega)];omega
   omega
theorem od{h n:List Ver}{f g:Int}(hfg:f≤g):lr (lr h f++n) g=lr (h++n) g:=by
 unfold lr
 have h1:upN h f - 1≤h.length:=by have:=rb h f;omega
 have h2:upN h f≤upN (h++n) g:=by
   have:upN h f≤upN (h++n) f:=by
     clear h1
     induction h with
     | nil=>rw[sd];omega
     | cons v h ih=>rw[List.cons_append,mu,mu];split <;> omega
   exact Nat.le_trans this (wj hfg)
 rw[← List.drop_append_of_le_length h1,wi (by omega),List.drop_drop]
 congr 1
 omega
theorem pX{h:List Ver}{f:Int}(hr:Rise h):Rise (lr h f):=List.Pairwise.drop hr
theorem qu{h:List Ver}{j:Nat}(hj:j<h.length):h.getD j v0∈h:=by
 rw[List.getD,List.getElem?_eq_getElem hj];exact List.getElem_mem hj
theorem yD{h:List Ver}{s:Int}{d:List Int}(h1:1≤s∧s≤1099511627776)(hh:∀ v∈h,v.1<s):mN h s d=h++[(s,d)]:=by
 have hc:h=[]∨(h.getD (h.length - 1) v0).1<s:=by
   by_cases hz:h=[]
   · exact .inl hz
   exact .inr (hh _ (qu (by have:=List.length_pos_iff.2 hz;omega)))
 unfold mN
 rw[if_pos ⟨h1,hc⟩]
end
end Go.Proofs.YteglmahnkfgelaaGreat.K
