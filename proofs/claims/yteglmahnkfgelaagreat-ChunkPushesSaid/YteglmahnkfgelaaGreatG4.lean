/- General laws of walks. -/
import Derived.Test.YteglmahnkfgelaaGreatG3
import Derived.Laws.MakeOwn
namespace Go.Proofs.YteglmahnkfgelaaGreat.K
open Go.ChangeShapes Go.WideShapes Go.ChangeAt Go.RowKit
set_option linter.unusedVariables false
set_option linter.unusedSimpArgs false
set_option maxRecDepth 100000
set_option maxHeartbeats 4000000
set_option autoImplicit true
set_option relaxedAutoImplicit true
section
def vq(M:Mm):List Nat:=M.filterMap (fun p=>p.2.blk)
def cxM(X:Cx)(M:Mm)(w:World)(L:Mm):Cx:=⟨vq L,fun b=>b<w.heap.size→mP X M b⟩
def Res.pass:Res→Bool
 | .num _ _ _ _=>false
 | .row _ _ _ _=>false
 | .rowC _ _ _ _ _=>false
 | _=>true
def t6(M:Mm)(ids:List Nat):Mm:=M.filter (fun p => !(ids.any (Nat.beq p.1)))
theorem t7{α:Type}:∀ {M:List (Nat×α)} {i:Nat} {r:α},lk M i=some r→(i,r)∈M
 | [],i,r,h=>by cases h
 | (k,x) :: t,i,r,h=>by
   rw[lT] at h
   split at h
   · rename_i e;subst e;cases h;exact List.mem_cons_self
   exact List.mem_cons_of_mem _ (t7 h)
theorem qj{M:Mm}:∀ {ps:List (Nat×Nat)} {i:Nat} {r:Res},(i,r)∈oJ M ps→∃ j,(i,j)∈ps∧lk M j=some r
 | [],i,r,h=>by cases h
 | (i',j) :: t,i,r,h=>by
   rw[oJ] at h
   split at h
   · rename_i r' hr
     rcases List.mem_cons.1 h with e|h
     · injection e with e1 e2;subst e1;subst e2;exact⟨j,List.mem_cons_self,hr⟩
     obtain⟨j',h1,h2⟩:=qj h;exact⟨j',List.mem_cons_of_mem _ h1,h2⟩
   obtain⟨j',h1,h2⟩:=qj h;exact⟨j',List.mem_cons_of_mem _ h1,h2⟩
theorem xE{M:Mm}{i b:Nat}{r:Res}(h:lk M i=some r)(hb:r.blk=some b):b∈vq M:=List.mem_filterMap.2 ⟨(i,r),t7 h,hb⟩
theorem vy{M:Mm}{ps:List (Nat×Nat)}{b:Nat}(h:b∈vq (oJ M ps)):∃ i j r,(i,j)∈ps∧lk M j=some r∧r.blk=some b:=by
 obtain⟨⟨i,r⟩,h1,h2⟩:=List.mem_filterMap.1 h
 obtain⟨j,h3,h4⟩:=qj h1
 exact⟨i,j,r,h3,h4,h2⟩
theorem wX{α:Type}:∀ {A B:List (Nat×α)} {i:Nat},lk (A++B) i=(lk A i).or (lk B i)
 | [],B,i=>rfl
 | (k,x) :: t,B,i=>by
   rw[List.cons_append,lT,lT]
   split
   · rfl
   exact wX
theorem qk{ids:List Nat}:∀ {M:Mm} {i:Nat} {r:Res},lk (t6 M ids) i=some r→i∉ids∧lk M i=some r
 | [],i,r,h=>by cases h
 | (k,x) :: t,i,r,h=>by
   unfold t6 at h
   rw[List.filter_cons] at h
   split at h
   · rename_i hk
     rw[lT] at h
     rw[lT]
     split at h
     · rename_i e;subst e
       rw[if_pos rfl]
       refine⟨fun hm =>?_,h⟩
       simp at hk
       exact hk _ hm rfl
     rename_i e
     rw[if_neg e]
     exact qk h
   rename_i hk
   obtain⟨h1,h2⟩:=qk (M:=t) h
   refine⟨h1,?_⟩
   rw[lT]
   split
   · rename_i e;subst e
     simp at hk
     exact absurd hk h1
   exact h2
section
variable {w w0:World} {X:Cx} {M:Mm}
theorem MemOk.into(m:MemOk X w0 M w)(ps:List (Nat×Nat))(hp:(ps.all fun p=>ps.all fun q => !(p.2 == q.2) || p.1 == q.1)=true)(h2:(oJ M ps).all (fun p=>p.2.pass)=true):MemOk (cxM X M w (oJ M ps)) w (oJ M ps) w where
 keep:=Keep.refl _ _
 fresh:=fun b hb hlt=>absurd hlt (by omega)
 ok i r h:=by
   obtain⟨j,h3,h4⟩:=mn h
   have hpass:r.pass=true:=List.all_eq_true.1 h2 _ (t7 h)
   have hown:∀ b,Own (oJ M ps) b→Own M b:=fun b ⟨q,s,hq,hs⟩=>by obtain⟨q',_,h5⟩:=mn hq;exact⟨q',s,h5,hs⟩
   have hfree:∀ b,b<w.heap.size→mP X M b→w.heap[b]? = w.heap[b]?∧mP (cxM X M w (oJ M ps)) (oJ M ps) b:=fun b hb hF=>⟨rfl,fun _=>hF,fun ho=>hF.2 (hown b ho)⟩
   have hbad:∀ b,r.blk=some b→b∈vq (oJ M ps):=fun b hb=>xE h hb
   have ho:=m.ok j r h4
   cases r with
   | dat v d=>exact Rd.mono ho (Nat.le_refl _) hfree
   | box g e cs=>exact⟨ho.1,.inr (hbad g rfl)⟩
   | num v e k zs=>cases hpass
   | row v e mm rows=>cases hpass
   | rowC v e mm rows cs=>cases hpass
   | seg v e mm rows=>exact⟨ho.1.mono (fun b hb hF=>(hfree b hb hF).2),fun b hb=>.inr (hbad b hb)⟩
   | cel b o vs=>exact⟨(hfree b ho.2.1 ho.1).2,ho.2⟩
   | any g=>exact⟨ho.1,.inr (hbad g rfl)⟩
   | gone=>trivial
 sep i j r s b h1 h2' hr hs:=by
   obtain⟨i',a1,a2⟩:=mn h1
   obtain⟨j',b1,b2⟩:=mn h2'
   obtain rfl:=m.sep i' j' r s b a2 b2 hr hs
   rw[List.all_eq_true] at hp
   have h3:=hp _ a1
   rw[List.all_eq_true] at h3
   have h4:=h3 _ b1
   simpa using h4
theorem Res.ok_low{N N':Nat}{X X':List Nat}{S:Nat→Prop}{w:World}{r:Res}(h:r.ok N X S w)(hN:N'≤N)(hX:∀ b,r.blk=some b→b∈X→N'≤b∨b∈X'):r.ok N' X' S w:=by
 have low:∀ {e:TypeId} {s:Nat} {v:Value} {n:Nat} {xs:List Value},w.ownsRow N e s v n xs→w.ownsRow N' e s v n xs:=by
   intro e s v n xs h
   refine⟨h.1,?_⟩
   rcases h.2 with hn|⟨g,cap,cur,rfl,hg,rest⟩
   · exact .inl hn
   exact .inr ⟨g,cap,cur,rfl,Nat.le_trans hN hg,rest⟩
 have two:∀ b,r.blk=some b→(N≤b∨b∈X)→(N'≤b∨b∈X'):=fun b hb h=>h.elim (fun h=>.inl (Nat.le_trans hN h)) (hX b hb)
 cases r with
 | dat v d=>exact h
 | box g e cs=>exact⟨h.1,two g rfl h.2⟩
 | num v e k zs=>exact low h
 | row v e mm rows=>obtain⟨cs,h1,h2⟩:=h;exact⟨cs,low h1,h2⟩
 | rowC v e mm rows cs=>exact⟨low h.1,h.2⟩
 | seg v e mm rows=>exact⟨h.1,fun b hb=>two b hb (h.2 b hb)⟩
 | cel b o vs=>exact h
 | any g=>exact⟨h.1,two g rfl h.2⟩
 | gone=>trivial
theorem MemOk.back(m:MemOk X w0 M w){ps:List (Nat×Nat)}{L:Mm}{w':World}(m':MemOk (cxM X M w (oJ M ps)) w L w')(qs:List (Nat×Nat))(hq:(qs.all fun p=>qs.all fun q => !(p.2 == q.2) || p.1 == q.1)=true):MemOk X w0 (oJ L qs++t6 M (ps.map (·.2))) w':=by
 -- the blocks that the call might write
 have hbad:∀ b,b∈vq (oJ M ps)→∃ j r,j∈ps.map (·.2)∧lk M j=some r∧r.blk=some b:=fun b hb=>by
   obtain⟨i,j,r,h1,h2,h3⟩:=vy hb
   exact⟨j,r,List.mem_map.2 ⟨(i,j),h1,rfl⟩,h2,h3⟩
 have hbadX:∀ b,b∈vq (oJ M ps)→b<w.heap.size∧(w0.heap.size≤b∨b∈X.bad):=fun b hb=>by
   obtain⟨j,r,_,h2,h3⟩:=hbad b hb
   exact Res.blk_lt (m.ok j r h2) h3
 have hcase:∀ i r,lk (oJ L qs++t6 M (ps.map (·.2))) i=some r→(∃ j,(i,j)∈qs∧lk L j=some r)∨(i∉ps.map (·.2)∧lk M i=some r):=fun i r h=>by
   rw[wX] at h
   cases hr:lk (oJ L qs) i with
   | some r' =>
     rw[hr] at h
     injection h with h;subst h
     exact .inl (mn hr)
   | none =>
     rw[hr] at h
     exact .inr (qk h)
 have hnew:∀ j r b,lk L j=some r→r.blk=some b→w.heap.size≤b∨b∈vq (oJ M ps):=fun j r b h1 h2=>(Res.blk_lt (m'.ok j r h1) h2).2
 have hold:∀ i r b,i∉ps.map (·.2)→lk M i=some r→r.blk=some b→b<w.heap.size∧b∉vq (oJ M ps):=fun i r b h1 h2 h3=>by
   refine⟨(Res.blk_lt (m.ok i r h2) h3).1,fun hb =>?_⟩
   obtain⟨j,s,h4,h5,h6⟩:=hbad b hb
   obtain rfl:=m.sep i j r s b h2 h5 h3 h6
   exact h1 h4
 have hsame:∀ b,b<w.heap.size→b∉vq (oJ M ps)→w'.heap[b]? = w.heap[b]?:=fun b hb hn=>m'.keep.2.2.2.2 b hb hn
 have hfree:∀ b,b<w.heap.size→mP X M b→mP X (oJ L qs++t6 M (ps.map (·.2))) b:=fun b hb hF=>by
   refine⟨hF.1,?_⟩
   rintro⟨i,r,hi,hr⟩
   rcases hcase i r hi with ⟨j,_,h2⟩|⟨_,h2⟩
   · rcases hnew j r b h2 hr with h|h
     · omega
     obtain⟨j',s,_,h5,h6⟩:=hbad b h
     exact hF.2 ⟨j',s,h5,h6⟩
   exact hF.2 ⟨i,r,h2,hr⟩
 have hnb:∀ b,b<w.heap.size→mP X M b→b∉vq (oJ M ps):=fun b hb hF h=>by
   obtain⟨j',s,_,h5,h6⟩:=hbad b h
   exact hF.2 ⟨j',s,h5,h6⟩
 refine⟨⟨m'.keep.1.trans m.keep.1,m'.keep.2.1.trans m.keep.2.1,m'.keep.2.2.1.trans m.keep.2.2.1,Nat.le_trans m.keep.size m'.keep.size,fun b hb hn =>?_⟩,m.fresh,fun i r hi =>?_,fun i j r s b hi hj hr hs =>?_⟩
 · rw[hsame b (Nat.lt_of_lt_of_le hb m.keep.size) (fun h=>(hbadX b h).2.elim (fun h=>by omega) hn)]
   exact m.keep.2.2.2.2 b hb hn
 · rcases hcase i r hi with ⟨j,h1,h2⟩|⟨h1,h2⟩
   · have h3:=m'.ok j r h2
     have h4:r.ok w0.heap.size X.bad (mP (cxM X M w (oJ M ps)) L) w':=Res.ok_low h3 m.keep.size (fun b _ hb=>(hbadX b hb).2)
     refine Res.ok_mono h4 (Nat.le_refl _) (fun b hb hF=>⟨rfl,?_⟩) (fun _ _=>rfl)
     by_cases hbw:b<w.heap.size
     · exact hfree b hbw (hF.1 hbw)
     refine⟨m.fresh b (by have:=m.keep.size;omega),?_⟩
     rintro⟨i',r',hi',hr'⟩
     rcases hcase i' r' hi' with ⟨j',_,h6⟩|⟨h5,h6⟩
     · exact hF.2 ⟨j',r',h6,hr'⟩
     have:=(hold i' r' b h5 h6 hr').1;omega
   exact Res.ok_mono (m.ok i r h2) m'.keep.size (fun b hb hF=>⟨hsame b hb (hnb b hb hF),hfree b hb hF⟩) (fun b hb=>hsame b (hold i r b h1 h2 hb).1 (hold i r b h1 h2 hb).2)
 rcases hcase i r hi with ⟨i',a1,a2⟩|⟨a1,a2⟩ <;> rcases hcase j s hj with ⟨j',b1,b2⟩|⟨b1,b2⟩
 · obtain rfl:=m'.sep i' j' r s b a2 b2 hr hs
   rw[List.all_eq_true] at hq
   have h3:=hq _ a1
   rw[List.all_eq_true] at h3
   have h4:=h3 _ b1
   simpa using h4
 · exfalso
   have h1:=hold j s b b1 b2 hs
   rcases hnew i' r b a2 hr with h|h
   · omega
   exact h1.2 h
 · exfalso
   have h1:=hold i r b a1 a2 hr
   rcases hnew j' s b b2 hs with h|h
   · omega
   exact h1.2 h
 exact m.sep i j r s b a2 b2 hr hs
end
end
section
abbrev cn(w:World):Cx:=cx (fun _=>False) w
abbrev New(w:World)(b:Nat):Prop:=w.heap.size≤b
section
variable {w w0:World} {X:Cx} {M:Mm}
theorem ze{b:Nat}(h:mP (cn w0) M b):New w0 b:=by
 by_cases hb:b<w0.heap.size
 · exact(h.1 hb).elim
 show w0.heap.size≤b;omega
theorem MemOk.outF(m:MemOk (cn w0) w0 M w){i:Nat}{v:Value}{d:D}(h:lk M i=some (.dat v d)):Rd (New w0) w v d:=(m.ok i _ h:Rd _ _ _ _).cast (fun _=>ze)
theorem MemOk.callF(m:MemOk X w0 M w)(i:Nat)(hi:lk M i=none){w':World}(hb:Below w.heap.size w w'){u:Value}{d:D}(h:Rd (New w) w' u d):MemOk X w0 ((i,.dat u d) :: M) w':=
 (m.later hb).dat i hi (h.cast (fun b hb=>m.free_out (.inr hb)))
theorem rC(m:MemOk X w0 M w)(hX:X.bad=[]){b:Nat}(hb:b<w0.heap.size):w.heap[b]? = w0.heap[b]?:=m.keep.2.2.2.2 b hb (by rw[hX];exact List.not_mem_nil)
theorem Blk.now{g:Nat}{e:TypeId}{cs:List Value}(h:Blk w0 g e cs)(m:MemOk X w0 M w)(hX:X.bad=[]):Blk w g e cs:=(rC m hX h.lt).trans h
theorem Rd.now'{S2:Nat→Prop}{v:Value}{d:D}(h:Rd S2 w0 v d)(m:MemOk X w0 M w)(hX:X.bad=[]):Rd S2 w v d:=h.now m (fun b _=>by rw[hX];exact List.not_mem_nil)
theorem Rd.extA{S2:Nat→Prop}{p:Option Addr}{l c mm:Nat}{rows:List (List D)}(h:Rd S2 w0 (.slice p l c) (.l mm rows))(j:Nat){r:List D}(hr:rows[j]? = some r):∃ g off vs,p=some ⟨g,off,none⟩∧l=rows.length∧RdL S2 w0 vs r∧∀ {X:Cx} {M:Mm} {w:World},MemOk X w0 M w→X.bad=[]→w.rangeAt g (off+j*mm) vs:=by
 have hj:j<rows.length:=(List.getElem?_eq_some_iff.1 hr).1
 rcases Rd.l_out h with rfl|⟨b,off,c',f,e,hS,hb,hmm,hcell,hrd⟩
 · simp at hj
 injection e with e1 e2 e3
 have hrm:r.length=mm:=hmm r (List.mem_of_getElem? hr)
 refine⟨b,off,(List.range mm).map (f j),e1,e2,RdL.of (by simp [hrm]) (fun q v d h1 h2 =>?_),fun m hX q v hv =>?_⟩
 · have h1':q<mm:=by have:=(List.getElem?_eq_some_iff.1 h2).1;omega
   have:v=f j q:=by simpa [h1'] using h1.symm
   subst this
   exact hrd j q r _ hr h2
 have hq':=(List.getElem?_eq_some_iff.1 hv).1
 have hq2:q<mm:=by simpa using hq'
 have:v=f j q:=by simpa [hq2] using hv.symm
 subst this
 rw[World.cell?_of_block (w:=w0) (rC m hX hb)]
 exact(hcell j q hj hq2).1
theorem Rd.extN{S2:Nat→Prop}{p:Option Addr}{l c:Nat}{k:IntKind}{zs:List Int}(h:Rd S2 w0 (.slice p l c) (.ns k zs))(j:Nat)(hj:j<zs.length):∃ g off,p=some ⟨g,off,none⟩∧l=zs.length∧∀ {X:Cx} {M:Mm} {w:World},MemOk X w0 M w→X.bad=[]→w.rangeAt g (off+j*1) [.int k (zs.getD j 0)]:=by
 obtain⟨a,c',e,hc,h0|⟨b,off,rfl,hS,hb,hcell⟩⟩:=h.ns_out
 · omega
 injection e with e1 e2 e3
 refine⟨b,off,e1,e2,fun m hX q v hv =>?_⟩
 obtain rfl:q=0:=by have:=(List.getElem?_eq_some_iff.1 hv).1;simpa using this
 simp at hv;subst hv
 rw[World.cell?_of_block (w:=w0) (rC m hX hb),Nat.add_zero,Nat.mul_one]
 exact hcell j hj
theorem Rd.takeL{S:Nat→Prop}{p:Option Addr}{l c mm:Nat}{rows:List (List D)}(h:Rd S w (.slice p l c) (.l mm rows))(j:Nat)(hj:j≤rows.length):Rd S w (.slice p j c) (.l mm (rows.take j)):=by
 by_cases h0:j=0
 · subst h0;rw[List.take_zero];exact .l0 _ _ _
 rcases Rd.l_out h with rfl|⟨b,off,c',f,e,hS,hb,hmm,hcell,hrd⟩
 · simp at hj;omega
 obtain⟨p',c'',e',hle⟩:=h.l_shape
 injection e with e1 e2 e3
 injection e' with e4 e5 e6
 subst e1;subst e6
 have hl:(rows.take j).length=j:=by rw[List.length_take];omega
 have:=Rd.l (S:=S) (w:=w) mm b off c (rows.take j) f hS hb (by omega) (fun r hr=>hmm r (List.mem_of_mem_take hr)) (fun i q hi hq=>hcell i q (by omega) hq) (fun i q r d hi hq=>by
   have hlt:i<j:=by have:=(List.getElem?_eq_some_iff.1 hi).1;omega
   rw[List.getElem?_take_of_lt hlt] at hi
   exact hrd i q r d hi hq)
 rw[hl] at this;exact this
theorem Rd.dropL{S:Nat→Prop}{p:Option Addr}{l c mm:Nat}{rows:List (List D)}(h:Rd S w (.slice p l c) (.l mm rows))(j:Nat)(hj:j≤rows.length):Rd S w (.slice (if c=j then p else p.map (·.add (j*mm))) (l - j) (c - j)) (.l mm (rows.drop j)):=by
 obtain⟨p',c'',e',hle⟩:=h.l_shape
 injection e' with e4 e5 e6
 subst e5
 by_cases h0:j=rows.length
 · subst h0;rw[List.drop_length,Nat.sub_self];exact .l0 _ _ _
 rcases Rd.l_out h with rfl|⟨b,off,c',f,e,hS,hb,hmm,hcell,hrd⟩
 · simp only [List.length_nil] at hj h0;omega
 injection e with e1 e2 e3
 subst e1;subst e6
 rw[if_neg (by omega)]
 have hl:(rows.drop j).length=rows.length - j:=List.length_drop
 have:=Rd.l (S:=S) (w:=w) mm b (off+j*mm) (c - j) (rows.drop j) (fun i q=>f (j+i) q) hS hb (by omega) (fun r hr=>hmm r (List.mem_of_mem_drop hr)) (fun i q hi hq=>by
   have:=hcell (j+i) q (by omega) hq
   rw[show off+j*mm+i*mm+q=off+(j+i)*mm+q by rw[Nat.add_mul];omega]
   exact this) (fun i q r d hi hq=>by
   rw[List.getElem?_drop] at hi
   exact hrd (j+i) q r d hi hq)
 rw[hl] at this
 simpa [Addr.add_mid] using this
theorem MemOk.takeR(m:MemOk X w0 M w){i:Nat}{p:Option Addr}{l c mm:Nat}{rows:List (List D)}(hm:lk M i=some (.dat (.slice p l c) (.l mm rows)))(j:Nat)(hj:j≤rows.length)(i2:Nat)(hi2:lk M i2=none):MemOk X w0 ((i2,.dat (.slice p j c) (.l mm (rows.take j))) :: M) w:=m.dat i2 hi2 ((m.rd hm).takeL j hj)
theorem MemOk.dropR(m:MemOk X w0 M w){i:Nat}{p:Option Addr}{l c mm:Nat}{rows:List (List D)}(hm:lk M i=some (.dat (.slice p l c) (.l mm rows)))(j:Nat)(hj:j≤rows.length)(i2:Nat)(hi2:lk M i2=none):MemOk X w0 ((i2,.dat (.slice (if c=j then p else p.map (·.add (j*mm))) (l - j) (c - j)) (.l mm (rows.drop j))) :: M) w:=m.dat i2 hi2 ((m.rd hm).dropL j hj)
end
section
variable {P:Program} {n:Nat} {T:List (Nat×Value)} {a:Act} {w w0:World} {X:Cx} {M:Mm} {tt:TypeId} {pos:String} {af:Array Edge} {gd:Option (Nat×Bool)} {Q:Exit→Act→World→Prop} {K:Act→World→Prop} {d:Option Tmp}
theorem Blk.sub{g:Nat}{e:TypeId}{cs:List Value}(h:Blk w g e cs)(o k:Nat):w.rangeAt g o ((cs.drop o).take k):=fun j v hj=>by
 have hj':j<k:=by have:=(List.getElem?_eq_some_iff.1 hj).1;rw[List.length_take] at this;omega
 rw[List.getElem?_take_of_lt hj',List.getElem?_drop] at hj
 rw[h.cell];exact hj
theorem oo(ha:Has n T a){t:TypeId}{td:TypeDesc}{x:Operand}{b o q q':Nat}{vs:List Value}{v:Value}(hr:w.rangeAt b o vs)(hx:evT T x=some (.pointer (some ⟨b,q',none⟩)))(hq:q'=o+q)(hv:rD vs q=some v)(hu:P.underlying t=some td)(hd:td.isRow=false):Yl P a w ⟨d,.load t x,tt,pos,af,gd⟩ v:=by
 show(execOp _ _).run P w=_
 subst hq
 have hc':w.cell? ⟨b,o+q,none⟩=some v:=hr q v (by rw[ph];exact hv)
 simp [execOp,ha.ev hx,Instr.loadAt,Instr.sureAddr,oq hu hd hc']
theorem qN(ha:Has n T a){t t2:TypeId}{x y:Operand}{k k2:IntKind}{p q r:Int}(hx:evT T x=some (.int k p))(hy:evT T y=some (.int k2 q))(hr:min p q=r):Yl P a w ⟨d,.call { callee:=.builtin .min,args:=#[x,y],argTypes:=#[t,t2] },tt,pos,af,gd⟩ (.int k r):=by
 show(execOp _ _).run P w=_
 have e:(if q<p then q else p)=r:=by rw[← hr];split <;> omega
 simp [execOp,resolve,invoke,builtin,ha.ev hx,ha.ev hy,Builtin.min_,Builtin.min2,e]
theorem oK(ha:Has n T a){t t2:TypeId}{x y:Operand}{k k2:IntKind}{p q r:Int}(hx:evT T x=some (.int k p))(hy:evT T y=some (.int k2 q))(hr:max p q=r):Yl P a w ⟨d,.call { callee:=.builtin .max,args:=#[x,y],argTypes:=#[t,t2] },tt,pos,af,gd⟩ (.int k r):=by
 show(execOp _ _).run P w=_
 have e:(if p<q then q else p)=r:=by rw[← hr];split <;> omega
 simp [execOp,resolve,invoke,builtin,ha.ev hx,ha.ev hy,Builtin.max_,Builtin.max2,e]
theorem zf(h:Has n T a){t e:TypeId}{x:Operand}{p:Option Addr}{l c:Nat}(hx:evT T x=some (.slice p l c))(hu:P.underlying t=some (.slice e)):Yl P a w ⟨d,.call { callee:=.builtin .cap,args:=#[x],argTypes:=#[t] },tt,pos,af,gd⟩ (.int .i64 c):=by
 show(execOp _ _).run P w=_;simp [execOp,resolve,invoke,builtin,h.ev hx,Builtin.cap_,run_underlying hu,goInt]
theorem rE (ha : Has n T a) {d : Tmp} {f : FuncId} {x : Operand} {args : Array Operand} {ats : Array TypeId} {fn : Func} {vs : List Value} (hxf : evT T x = some (.func (.func f) #[] #[])) (hf : P.funcs[f]? = some fn) (hn : (fn.name == "runtime.NumGoroutine") = false) (hb : fn.body.isNone = false) (hargs : evA T args.toList = some vs) (ht : Nat.blt d n = true) {R : Ending → World → Prop} (hc : Calls P f vs.toArray w R) (h : ∀ e w', R e w' → ∃ v, e = .returned v ∧ ∀ a', Has n ((d, v) :: T) a' → K a' w') : Oper.wp P ⟨some d, .call { callee := .value x, args := args, argTypes := ats }, tt, pos, af, gd⟩ a w K Q := by
 have hv:args.map a.eval=vs.toArray:=by
   apply Array.ext';rw[Array.toList_map,ha.evA hargs]
 have hr:(execOp a.eval ⟨some d,.call { callee:=.value x,args:=args,argTypes:=ats },tt,pos,af,gd⟩).run P w=.ok (.enter f vs.toArray) w:=by
   have hn' : ¬ fn.name = "runtime.NumGoroutine" := by simpa using hn
   have hb':¬ fn.body=none:=by cases h9:fn.body with|none=>rw[h9] at hb;cases hb|some c=>simp
   simp [execOp,resolve,ha.ev hxf,Deferred.ofValue,invoke,callFunc,hf,hn',hb',hv]
 show Oper.upon P _ a K Q _
 rw[hr]
 show Calls P f vs.toArray w _
 refine hc.mono (fun e w' hR =>?_)
 obtain⟨v,rfl,hh⟩:=h e w' hR
 exact hh _ (ha.put ht v)
end
end
section
theorem sy(off:Nat):∀ (l:List Value) (k:Nat) (A:List Value),off+k+l.length≤A.length→((l.zipIdx k).foldl (fun(cs:Array Value) (p:Value×Nat)=>cs.setIfInBounds (off+p.2) p.1) A.toArray).toList=A.take (off+k)++l++A.drop (off+k+l.length)
 | [],k,A,_=>by simp
 | c :: l,k,A,h=>by
   simp only [List.length_cons] at h
   rw[List.zipIdx_cons,List.foldl_cons]
   have e:A.toArray.setIfInBounds (off+k) c=(A.set (off+k) c).toArray:=by simp
   rw[e,sy off l (k+1) (A.set (off+k) c) (by rw[List.length_set];omega)]
   have hk:off+k<A.length:=by omega
   have e1:(A.set (off+k) c).take (off+(k+1))=A.take (off+k)++[c]:=by
     rw[show off+(k+1)=off+k+1 from by omega,List.take_succ_eq_append_getElem (by rw[List.length_set];exact hk),List.getElem_set_self,List.take_set_of_le (Nat.le_refl _)]
   have e2:(A.set (off+k) c).drop (off+(k+1)+l.length)=A.drop (off+k+(l.length+1)):=by
     rw[List.drop_set_of_lt (by omega)];congr 1;omega
   rw[e1,e2,List.length_cons]
   simp
def xF:List Value→List (Nat×Nat)→List (Nat×Value)→Option (List Value)
 | z,_,[]=>some z
 | z,ps,(i,v) :: r=>match rD ps i with
   | some (off,sz)=>bif Nat.beq v.cells.toList.length sz && Nat.ble (off+sz) z.length then xF (z.take off++v.cells.toList++z.drop (off+sz)) ps r else none
   | none=>none
theorem qO(ps:List (Nat×Nat)):∀ (pl:List (Nat×Value)) (z cs:List Value),xF z ps pl=some cs→Instr.fill (fun i=>ps[i]?) z.toArray pl=some cs.toArray
 | [],z,cs,h=>by unfold xF at h;cases h;rfl
 | (i,v) :: r,z,cs,h=>by
   unfold xF at h
   cases hp:rD ps i with
   | none=>rw[hp] at h;cases h
   | some q =>
     obtain⟨off,sz⟩:=q
     rw[hp] at h
     dsimp only at h
     cases hb:(Nat.beq v.cells.toList.length sz && Nat.ble (off+sz) z.length) with
     | false=>rw[hb] at h;cases h
     | true =>
       rw[hb] at h
       dsimp only [cond] at h
       rw[Bool.and_eq_true] at hb
       have h1:=Nat.eq_of_beq_eq_true hb.1
       have h2:=Nat.le_of_ble_eq_true hb.2
       have hsz:v.cells.size=sz:=by simpa using h1
       rw[Instr.fill]
       rw[ph,hp]
       dsimp only
       have hc:¬ ((v.cells.size≠sz || off+v.cells.size > z.toArray.size)=true):=by
         simp [hsz];omega
       have e:(v.cells.zipIdx.foldl (fun cs (x:Value×Nat)=>cs.setIfInBounds (off+x.2) x.1) z.toArray)=(z.take off++v.cells.toList++z.drop (off+sz)).toArray:=by
         apply Array.ext'
         have:=sy off v.cells.toList 0 z (by rw[Nat.add_zero,h1];exact h2)
         rw[Nat.add_zero,h1] at this
         rw[← this,← Array.foldl_toList,Array.toList_zipIdx]
       rw[if_neg (by simpa using hc)]
       have:=qO ps r _ _ h
       rw[← this,← e]
def pj(P:Program)(t:TypeId):Option (List (Nat×Nat)):=
 match P.underlying t with
 | some (.struct fs)=>fs.toList.mapM (fun f=>(P.info? f.type).map fun i=>(f.offset,i.size))
 | _=>none
section
variable {P:Program} {n:Nat} {T:List (Nat×Value)} {a:Act} {w w0:World} {X:Cx} {M:Mm} {tt:TypeId} {pos:String} {af:Array Edge} {gd:Option (Nat×Bool)} {Q:Exit→Act→World→Prop} {d:Option Tmp}
theorem t8{t:TypeId}{z cs:List Value}{ps:List (Nat×Nat)}(hz:((P.info? t).bind (·.zero)).map (·.cells.toList)=some z)(hps:pj P t=some ps)(pl:List (Nat×Value))(hp:xF z ps pl=some cs):P.built t pl=some cs.toArray:=by
 unfold pj at hps
 unfold Program.built
 cases hi:P.info? t with
 | none=>simp [hi] at hz
 | some it =>
   cases hu:P.underlying t with
   | none=>simp [hu] at hps
   | some td =>
     cases td <;> try (simp [hu] at hps;done)
     case struct fs =>
       cases hzz:it.zero with
       | none=>simp [hi,hzz] at hz
       | some zz =>
         have hzl:zz.cells.toList=z:=by simpa [hi,hzz] using hz
         have hzc:zz.cells=z.toArray:=by rw[← hzl]
         simp only [hu] at hps
         simp only [hzz,hps,hzc]
         have:=qO ps pl z cs hp
         simpa using this
theorem vz(h:Has n T a){t:TypeId}{parts:Array (Nat×Operand)}{z cs:List Value}{pl:List (Nat×Value)}{ps:List (Nat×Nat)}(hp:K.evP T parts.toList=some pl)(hz:((P.info? t).bind (·.zero)).map (·.cells.toList)=some z)(hps:pj P t=some ps)(hc:xF z ps pl=some cs):Yl P a w ⟨d,.build t parts,tt,pos,af,gd⟩ (.agg cs.toArray):=by
 have hb:=t8 hz hps pl hc
 have hpl:=h.evP hp
 show(execOp _ _).run P w=_
 have hr:=run_build (P:=P) w t (parts.map fun(i,x)=>(i,a.eval x)) cs.toArray (by rw[Array.toList_map];rw[← hpl] at hb;exact hb)
 simp only [execOp,Sem.run_bind,hr,Result.andThen_ok,Sem.run_pure]
end
section
variable {P:Program} {n:Nat} {T:List (Nat×Value)} {a:Act} {w:World} {tt:TypeId} {pos:String} {af:Array Edge} {ops:Array Oper} {rest:List Oper} {Q:Exit→Act→World→Prop}
theorem Has.unyielded(ha:Has n T a){j t:Nat}(hj:(ops[j]?).bind (·.dst)=some t)(hb:lk T t=some undef)(ht:Nat.blt t n=true):Go.yielded ops a.tmps j=none:=by
 have hlt:t<a.tmps.size:=by rw[ha.sz];simpa [Nat.blt_eq] using ht
 have:=ha.h t _ hb
 unfold Go.yielded
 rw[hj]
 show(match a.tmps[t]? with|some (.bool b)=>some b|_=>none)=none
 rw[Array.getElem?_eq_getElem hlt]
 have e:a.tmps[t]=undef:=by simpa [Array.getD,hlt] using this
 rw[e];rfl
theorem lw{d:Tmp}{op:Op}{j t:Nat}{b:Bool}(ha:Has n T a)(hj:(ops[j]?).bind (·.dst)=some t)(hb:lk T t=some undef)(ht2:Nat.blt t n=true)(ht:Nat.blt d n=true)(h:∀ a',Has n ((d,undef) :: T) a'→wpList P ops Q rest a' w):wpList P ops Q (⟨some d,op,tt,pos,af,some (j,b)⟩ :: rest) a w:=by
 refine wpList_step fun K hK =>?_
 rw[if_neg (by simp [Region.wanted,ha.unyielded hj hb ht2])]
 exact hK _ _ (h _ (ha.put ht _))
variable {md:Region.Mode} {S:World→Prop} {e:Nat} {listed:Array Bool} {fuel:Nat}
end
section
variable {P:Program} {n:Nat} {T:List (Nat×Value)} {a:Act} {w w0:World} {X:Cx} {M:Mm} {tt:TypeId} {pos:String} {af:Array Edge} {gd:Option (Nat×Bool)} {d:Option Tmp}
theorem vA(ha:Has n T a)(m:MemOk X w0 M w){t:TypeId}{td:TypeDesc}{x:Operand}{i g o l c mm:Nat}{e:TypeId}{rows:List (List D)}(hm:lk M i=some (.seg (.slice (some ⟨g,o,none⟩) l c) e mm rows))(J:Nat){r:List D}(hr:rows[J]? = some r){q q':Nat}{v:Value}(hq:rD r q=some (.v v))(hx:evT T x=some (.pointer (some ⟨g,q',none⟩)))(hq':q'=o+J*mm+q)(hu:P.underlying t=some td)(hd:td.isRow=false):Yl P a w ⟨d,.load t x,tt,pos,af,gd⟩ v:=by
 obtain⟨⟨cs,h1,h2,h3,h4,h5⟩,-⟩:=m.ok i _ hm
 subst hq'
 have hJ:J<rows.length:=(List.getElem?_eq_some_iff.1 hr).1
 have hJc:cs[J]? = some cs[J]:=List.getElem?_eq_getElem (by omega)
 have hc:=(h3 cs[J] (List.getElem_mem (by omega))).1
 rw[← ph] at hq
 have hqr:=(List.getElem?_eq_some_iff.1 hq).1
 have hrm:=h4 r (List.mem_of_getElem? hr)
 have hxq:cs[J][q]? = some (cs[J][q]'(by omega)):=List.getElem?_eq_getElem (by omega)
 have hv:=(h5 J q cs[J] r _ _ hJc hr hxq hq).v_out
 have hl:l=rows.length:=by
   rcases h1.2 with ⟨e1,_⟩|⟨_,_,_,_,e1,_⟩
   · cases e1
   injection e1
 subst hl
 have hf:=l5 cs J q cs[J] (fun c hc=>(h3 c hc).1) hJc (by omega)
 have hcell:=h1.cellAt rfl (J*mm+q) (by calc J*mm+q<J*mm+mm:=by omega
     _=(J+1)*mm:=by rw[Nat.add_mul];omega
     _≤rows.length*mm:=Nat.mul_le_mul_right _ (by omega))
 have hc':w.cell? ⟨g,o+J*mm+q,none⟩=some v:=by rw[Nat.add_assoc,hcell,hf,hxq,hv]
 show(execOp _ _).run P w=_
 simp [execOp,ha.ev hx,Instr.loadAt,Instr.sureAddr,oq hu hd hc']
end
section
variable {P:Program} {n:Nat} {T:List (Nat×Value)} {a:Act} {w:World} {tt:TypeId} {pos:String} {af:Array Edge} {gd:Option (Nat×Bool)} {Q:Exit→Act→World→Prop} {K:Act→World→Prop}
theorem e_y{d:Tmp}{op:Op}{v:Value}(ha:Has n T a)(ht:Nat.blt d n=true)(hy:Yl P a w ⟨some d,op,tt,pos,af,gd⟩ v)(h:∀ a',Has n ((d,v) :: T) a'→K a' w):Oper.wp P ⟨some d,op,tt,pos,af,gd⟩ a w K Q:=by
 show Oper.upon P _ a K Q _
 rw[hy]
 exact h _ (ha.put ht v)
end
end
section
theorem RowOk.cast{N:Nat}{S S':Nat→Prop}{w:World}{v:Value}{e:TypeId}{m:Nat}{rows:List (List D)}(h:RowOk N S w v e m rows)(hs:∀ b,S b→S' b):RowOk N S' w v e m rows:=by
 obtain⟨cs,h1,h2,h3,h4,h5⟩:=h
 exact⟨cs,h1,h2,h3,h4,fun j q c r x d a1 a2 a3 a4=>(h5 j q c r x d a1 a2 a3 a4).cast hs⟩
section
variable {P:Program} {n:Nat} {T:List (Nat×Value)} {a:Act} {w w0:World} {X:Cx} {M:Mm} {tt:TypeId} {pos:String} {af:Array Edge} {gd:Option (Nat×Bool)} {Q:Exit→Act→World→Prop} {K:Act→World→Prop}
end
end
section
theorem Q1x{p:Prop}[Decidable p]:(decide p=true)=p:=decide_eq_true_eq
theorem Q2x{p:Prop}[Decidable p]:decide p=false↔¬ p:=decide_eq_false_iff_not
theorem Q3x(b:Bool):(¬ (b=true))=(b=false):=Bool.not_eq_true b
theorem Q4x(b:Bool):(¬ (b=false))=(b=true):=Bool.not_eq_false b
theorem Q5x{a b:Bool}:(!a)=b↔a = !b:=Bool.not_eq_eq_eq_not
theorem Q6x:(!true)=false:=rfl
theorem Q7x:(!false)=true:=rfl
theorem Q8x(b:Bool):(!!b)=b:=Bool.not_not b
theorem Q9x{a b:Int}:¬ a<b↔b≤a:=Int.not_lt
theorem Q0x{a b:Int}:¬ a≤b↔b<a:=Int.not_le
theorem Qax{α:Sort _}(a b:α):(a≠b) = ¬ (a=b):=ne_eq a b
theorem Qbx{p:Prop}[Decidable p]:¬ ¬ p↔p:=Decidable.not_not
theorem QQ:(∀ (p:Prop) [Decidable p],(decide p=true)=p)∧(∀ (p:Prop) [Decidable p],decide p=false↔¬ p)∧(∀ (b:Bool),(¬ (b=true))=(b=false))∧(∀ (b:Bool),(¬ (b=false))=(b=true))∧(∀ (a b:Bool),(!a)=b↔a = !b)∧((!true)=false)∧((!false)=true)∧(∀ (b:Bool),(!!b)=b)∧(∀ (a b:Int),¬ a<b↔b≤a)∧(∀ (a b:Int),¬ a≤b↔b<a)∧(∀ (p:Prop) [Decidable p],¬ ¬ p↔p):=⟨fun _ _=>Q1x,fun _ _=>Q2x,Q3x,Q4x,fun _ _=>Q5x,Q6x,Q7x,Q8x,fun _ _=>Q9x,fun _ _=>Q0x,fun _ _=>Qbx⟩
theorem il{α:Type}{a:α}{p:Prop}:a=a∨p:=.inl rfl
theorem i1l{α:Type}{a0:α}{p0:Prop}:(a0=a0∨p0)∧True:=⟨il,trivial⟩
theorem i2l{α:Type}{a0 a1:α}{p0 p1:Prop}:(a0=a0∨p0)∧(a1=a1∨p1)∧True:=⟨il,il,trivial⟩
theorem i4l{α:Type}{a0 a1 a2 a3:α}{p0 p1 p2 p3:Prop}:(a0=a0∨p0)∧(a1=a1∨p1)∧(a2=a2∨p2)∧(a3=a3∨p3)∧True:=⟨il,il,il,il,trivial⟩
theorem i5l{α:Type}{a0 a1 a2 a3 a4:α}{p0 p1 p2 p3 p4:Prop}:(a0=a0∨p0)∧(a1=a1∨p1)∧(a2=a2∨p2)∧(a3=a3∨p3)∧(a4=a4∨p4)∧True:=⟨il,il,il,il,il,trivial⟩
theorem i6l{α:Type}{a0 a1 a2 a3 a4 a5:α}{p0 p1 p2 p3 p4 p5:Prop}:(a0=a0∨p0)∧(a1=a1∨p1)∧(a2=a2∨p2)∧(a3=a3∨p3)∧(a4=a4∨p4)∧(a5=a5∨p5)∧True:=⟨il,il,il,il,il,il,trivial⟩
theorem i7l{α:Type}{a0 a1 a2 a3 a4 a5 a6:α}{p0 p1 p2 p3 p4 p5 p6:Prop}:(a0=a0∨p0)∧(a1=a1∨p1)∧(a2=a2∨p2)∧(a3=a3∨p3)∧(a4=a4∨p4)∧(a5=a5∨p5)∧(a6=a6∨p6)∧True:=⟨il,il,il,il,il,il,il,trivial⟩
theorem i8l{α:Type}{a0 a1 a2 a3 a4 a5 a6 a7:α}{p0 p1 p2 p3 p4 p5 p6 p7:Prop}:(a0=a0∨p0)∧(a1=a1∨p1)∧(a2=a2∨p2)∧(a3=a3∨p3)∧(a4=a4∨p4)∧(a5=a5∨p5)∧(a6=a6∨p6)∧(a7=a7∨p7)∧True:=⟨il,il,il,il,il,il,il,il,trivial⟩
theorem qt{α:Type}{a0 a1 a2 a3 a4 a5 a6 a7 a8 a9:α}{p0 p1 p2 p3 p4 p5 p6 p7 p8 p9:Prop}:(a0=a0∨p0)∧(a1=a1∨p1)∧(a2=a2∨p2)∧(a3=a3∨p3)∧(a4=a4∨p4)∧(a5=a5∨p5)∧(a6=a6∨p6)∧(a7=a7∨p7)∧(a8=a8∨p8)∧(a9=a9∨p9)∧True:=⟨il,il,il,il,il,il,il,il,il,il,trivial⟩
theorem qU{α:Type}{a0 a1 a2 a3 a4 a5 a6 a7 a8 a9 a10:α}{p0 p1 p2 p3 p4 p5 p6 p7 p8 p9 p10:Prop}:(a0=a0∨p0)∧(a1=a1∨p1)∧(a2=a2∨p2)∧(a3=a3∨p3)∧(a4=a4∨p4)∧(a5=a5∨p5)∧(a6=a6∨p6)∧(a7=a7∨p7)∧(a8=a8∨p8)∧(a9=a9∨p9)∧(a10=a10∨p10)∧True:=⟨il,il,il,il,il,il,il,il,il,il,il,trivial⟩
theorem Ab{α:Type}{a0 a1 a2 a3 a4 a5 a6 a7 a8 a9 a10 a11:α}{p0 p1 p2 p3 p4 p5 p6 p7 p8 p9 p10 p11:Prop}:(a0=a0∨p0)∧(a1=a1∨p1)∧(a2=a2∨p2)∧(a3=a3∨p3)∧(a4=a4∨p4)∧(a5=a5∨p5)∧(a6=a6∨p6)∧(a7=a7∨p7)∧(a8=a8∨p8)∧(a9=a9∨p9)∧(a10=a10∨p10)∧(a11=a11∨p11)∧True:=⟨il,il,il,il,il,il,il,il,il,il,il,il,trivial⟩
theorem Ac{α:Type}{a0 a1 a2 a3 a4 a5 a6 a7 a8 a9 a10 a11 a12:α}{p0 p1 p2 p3 p4 p5 p6 p7 p8 p9 p10 p11 p12:Prop}:(a0=a0∨p0)∧(a1=a1∨p1)∧(a2=a2∨p2)∧(a3=a3∨p3)∧(a4=a4∨p4)∧(a5=a5∨p5)∧(a6=a6∨p6)∧(a7=a7∨p7)∧(a8=a8∨p8)∧(a9=a9∨p9)∧(a10=a10∨p10)∧(a11=a11∨p11)∧(a12=a12∨p12)∧True:=⟨il,il,il,il,il,il,il,il,il,il,il,il,il,trivial⟩
variable {P:Program} {n:Nat} {T:List (Nat×Value)} {a:Act} {w w0:World} {X:Cx} {M:Mm} {tt:TypeId} {pos:String} {af:Array Edge} {ops:Array Oper} {Q:Exit→Act→World→Prop} {md:Region.Mode} {e fuel:Nat} {S:World→Prop} {listed:Array Bool}
end
section
section
variable {P:Program} {n:Nat} {T:List (Nat×Value)} {a:Act} {w:World} {d:Option Tmp} {tt:TypeId} {pos:String} {af:Array Edge} {gd:Option (Nat×Bool)}
theorem ti(h:Has n T a){f:FuncId}{caps:Array Operand}{vs:List Value}(hargs:evA T caps.toList=some vs):Yl P a w ⟨d,.makeFunc (.func f) #[] caps,tt,pos,af,gd⟩ (.func (.func f) #[] vs.toArray):=by
 have hv:caps.map a.eval=vs.toArray:=by
   apply Array.ext';rw[Array.toList_map,h.evA hargs]
 show(execOp _ _).run P w=_
 simp [execOp,Instr.makeFunc,hv]
end
section
variable {P:Program} {n:Nat} {T:List (Nat×Value)} {a:Act} {w:World} {Q:Exit→Act→World→Prop} {K:Act→World→Prop} {tt:TypeId} {pos:String} {af:Array Edge} {gd:Option (Nat×Bool)}
theorem rF (ha : Has n T a) {d : Tmp} {f : FuncId} {x : Operand} {args : Array Operand} {ats : Array TypeId} {fn : Func} {vs cs : List Value} (hxf : evT T x = some (.func (.func f) #[] cs.toArray)) (hf : P.funcs[f]? = some fn) (hn : (fn.name == "runtime.NumGoroutine") = false) (hb : fn.body.isNone = false) (hargs : evA T args.toList = some vs) (ht : Nat.blt d n = true) {R : Ending → World → Prop} (hc : Calls P f (vs ++ cs).toArray w R) (h : ∀ e w', R e w' → ∃ v, e = .returned v ∧ ∀ a', Has n ((d, v) :: T) a' → K a' w') : Oper.wp P ⟨some d, .call { callee := .value x, args := args, argTypes := ats }, tt, pos, af, gd⟩ a w K Q := by
 have hv:args.map a.eval=vs.toArray:=by
   apply Array.ext';rw[Array.toList_map,ha.evA hargs]
 have hr:(execOp a.eval ⟨some d,.call { callee:=.value x,args:=args,argTypes:=ats },tt,pos,af,gd⟩).run P w=.ok (.enter f (vs++cs).toArray) w:=by
   have hn' : ¬ fn.name = "runtime.NumGoroutine" := by simpa using hn
   have hb':¬ fn.body=none:=by cases h9:fn.body with|none=>rw[h9] at hb;cases hb|some c=>simp
   simp [execOp,resolve,ha.ev hxf,Deferred.ofValue,invoke,callFunc,hf,hn',hb',hv]
 show Oper.upon P _ a K Q _
 rw[hr]
 show Calls P f (vs++cs).toArray w _
 refine hc.mono (fun e w' hR =>?_)
 obtain⟨v,rfl,hh⟩:=h e w' hR
 exact hh _ (ha.put ht v)
end
section
variable {P:Program} {n:Nat} {T:List (Nat×Value)} {a:Act} {w w0:World} {X:Cx} {M:Mm}
theorem tj(ha:Has n T a)(m:MemOk X w0 M w){fn:Func}{t s:Tmp}{ty ty2:TypeId}{td td2:TypeDesc}{i g i2 g2:Nat}{e e2:TypeId}{cs cs2:List Value}{R:Ending→World→Prop}(hr:fn.results=#[.cell t ty,.cell s ty2])(hv:lk T t=some (.pointer (some ⟨g,0,none⟩)))(hv2:lk T s=some (.pointer (some ⟨g2,0,none⟩)))(hm:lk M i=some (.box g e cs))(hm2:lk M i2=some (.box g2 e2 cs2))(hu:P.underlying ty=some td)(hd:td.isRow=true)(hs:(P.info? ty).map (·.size)=some cs.length)(hu2:P.underlying ty2=some td2)(hd2:td2.isRow=true)(hs2:(P.info? ty2).map (·.size)=some cs2.length)(h:R (.returned (.tuple #[.agg cs.toArray,.agg cs2.toArray])) w):bodyPost P fn R .ret a w:=
 ⟨ha.d,_,by
   have h1:=ha.h t _ hv
   have h2:=ha.h s _ hv2
   rw[Array.getD_eq_getD_getElem?] at h1 h2
   simp [results,hr,h1,h2,asAddr,ms m hm hu hd hs,ms m hm2 hu2 hd2 hs2],h⟩
end
end
section
section
variable {P:Program} {n:Nat} {T:List (Nat×Value)} {a:Act} {w w0:World} {X:Cx} {M:Mm} {tt:TypeId} {pos:String} {af:Array Edge} {gd:Option (Nat×Bool)} {Q:Exit→Act→World→Prop} {K:Act→World→Prop}
theorem Af(k:IntKind)(n:Nat):(madeCells (Value.int k 0).cells n).toList=(List.replicate n 0).map (Value.int k):=by
 unfold madeCells
 apply List.ext_getElem
 · simp
 intro i h1 h2
 simp [Value.cells,Nat.mod_one]
theorem xG(ha:Has n T a)(m:MemOk X w0 M w)(i:Nat){d:Tmp}{t e:TypeId}{x y:Operand}{k kx ky:IntKind}{q q2:Int}{bytes:Nat}(N:Nat)(hx:evT T x=some (.int kx q))(hy:evT T y=some (.int ky q2))(hq:q=N)(hq2:q2=N)(ht:P.underlying t=some (.slice e))(hinf:(P.info? e).map (fun i=>(i.zero,i.size,i.bytes))=some (some (.int k 0),1,bytes))(hb8:bytes≤1000)(hN:N≤100000000)(hd:Nat.blt d n=true)
   (h:∀ p c a' w',Has n ((d,.slice p N c) :: T) a'→MemOk X w0 ((i,.num (.slice p N c) e k (List.replicate N 0)) :: M) w'→K a' w'):Oper.wp P ⟨some d,.makeSlice t x y,tt,pos,af,gd⟩ a w K Q:=by
 obtain⟨i0,hi,hz0,hz1,hz2⟩:=info_parts hinf
 subst hq;subst hq2
 have hby:N*bytes≤100000000000:=Nat.mul_le_mul hN hb8
 have hby2:(bytes:Int)*(N:Int)≤281474976710656:=by
   rw[← Int.natCast_mul,Nat.mul_comm];omega
 have hr:=run_make (P:=P) w t e i0 _ ht hi hz0 kx ky (N:Int) (N:Int) (by omega) (by omega) (by rw[hz2];exact hby2) (by omega)
 rw[hz1,Nat.mul_one,Int.toNat_natCast] at hr
 have hrun:(execOp a.eval ⟨some d,.makeSlice t x y,tt,pos,af,gd⟩).run P w=.ok (.value (.slice (some ⟨w.heap.size,0,none⟩) N N)) (w.alloc (.cells (madeCells (Value.int k 0).cells N) e)):=by
   simp [execOp,ha.ev hx,ha.ev hy,hr]
 show Oper.upon P _ a K Q _
 rw[hrun]
 refine h _ _ _ _ (ha.put hd _) (m.newN i ((Below.refl _ w).alloc (Nat.le_refl _) _) ?_)
 rw[List.length_replicate]
 refine⟨by simp,.inr ⟨w.heap.size,N,madeCells (Value.int k 0).cells N,rfl,Nat.le_refl _,heap_alloc_new w _,Nat.le_refl _,by unfold maxLen;omega,by rw[size_madeCells,Nat.mul_one],?_⟩⟩
 rw[Af,Nat.mul_one,List.take_of_length_le (by simp)]
end
end
section
variable {P:Program} {n:Nat} {T:List (Nat×Value)} {a:Act} {w:World} {d:Option Tmp} {tt:TypeId} {pos:String} {af:Array Edge} {gd:Option (Nat×Bool)}
end
end Go.Proofs.YteglmahnkfgelaaGreat.K
