/- General laws of walks. -/
import Derived.Test.YtkehgingagggaaaGreatG10
import Derived.RegionTactic
import Derived.ChangeAlike
import Derived.Test.YtkehgingagggaaaGreatG1
import Derived.Lib.SlBytesConst
import Derived.Deep.Matrix
namespace Go.Proofs.YtkehgingagggaaaGreat.K
open Go.ChangeShapes Go.WideShapes Go.ChangeAt Go.RowKit
set_option linter.unusedVariables false
set_option linter.unusedSimpArgs false
set_option maxRecDepth 100000
set_option maxHeartbeats 4000000
set_option autoImplicit true
set_option relaxedAutoImplicit true
section
def Only(B:Nat)(w w':World):Prop:=w.grownBy w' (some B)
theorem Only.refl(B)(w:World):Only B w w:=⟨rfl,rfl,rfl,Nat.le_refl _,fun _ _ _=>rfl⟩
theorem Only.trans{a b c:World}(h:Only B a b)(k:Only B b c):Only B a c:=
 ⟨k.os.trans h.os,k.tape.trans h.tape,k.output.trans h.output,Nat.le_trans h.size k.size,fun i hi hne=>(k.block i (Nat.lt_of_lt_of_le hi h.size) hne).trans (h.block i hi hne)⟩
theorem Only.set(B)(w:World)(o v):Only B w (w.setCell ⟨B,o,none⟩ v):=
 ⟨rfl,rfl,rfl,by simp [World.setCell],fun k _ hne=>Below.heap_setCell _ _ _ _ (fun e=>hne (by rw[e]))⟩
theorem Only.ofBelow{w w':World}(h:Below w.heap.size w w'):Only B w w':=⟨h.os,h.tape,h.output,h.size,fun k hk _=>h.block k hk⟩
theorem Only.below{w w':World}(h:Only B w w')(hB:N≤B)(hN:N≤w.heap.size):Below N w w':=
 ⟨h.os,h.tape,h.output,h.size,fun k hk=>h.block k (by omega) (fun e=>by cases e;omega)⟩
theorem Only.drew(B)(w:World):Only B w w.drew:=⟨rfl,rfl,rfl,Nat.le_refl _,fun _ _ _=>rfl⟩
theorem IsReader.lt{w:World}{e:Int}(h:IsReader w B v bs e):B<w.heap.size:=World.block_lt_of_cell? w ⟨B,0,none⟩ h.1
theorem IsReader.kept{w w':World}{e:Int}(h:IsReader w B v bs e)(ho:Only B2 w w')(hB:B<B2):IsReader w' B v bs e:=by
 have hlt:=h.lt
 obtain⟨h0,h1,h2,h3,h4,h5⟩:=h
 have hb:w'.heap[B]? = w.heap[B]?:=ho.block B hlt (fun e=>by cases e;omega)
 exact⟨by rw[World.cell?_of_block (w:=w) hb];exact h0,by rw[World.cell?_of_block (w:=w) hb];exact h1,by rw[World.frozen?_of_block (w:=w) hb];exact h2,by rw[World.frozen?_of_block (w:=w) hb];exact h3,h4.below (ho.below (by omega) (by omega)),h5⟩
theorem IsReader.later{w w':World}{e:Int}(h:IsReader w B v bs e)(hb:Below w.heap.size w w'):IsReader w' B v bs e:=by
 have hlt:=h.lt
 obtain⟨h0,h1,h2,h3,h4,h5⟩:=h
 exact⟨by rw[hb.cell (by exact hlt)];exact h0,by rw[hb.cell (by exact hlt)];exact h1,by rw[hb.frozen (by exact hlt)];exact h2,by rw[hb.frozen (by exact hlt)];exact h3,h4.below (hb.mono (by omega)),h5⟩
theorem oF:∀ (bs:List Int) (acc i:Nat) (er:Int),dec acc i bs=.err er→er=20∨er=21
 | [],acc,i,er,h=>by rw[dec] at h;cases h;exact .inr rfl
 | b :: r,acc,i,er,h=>by
   rw[dec] at h
   split at h
   · cases h;exact .inl rfl
   split at h
   · cases h
   exact oF r _ _ er h
theorem ue:∀ (bs:List Int) (acc i n k:Nat),(∀ x∈bs,0≤x∧x≤255)→i≤9→acc<2 ^ (7*i)→dec acc i bs=.ok n k→n<2 ^ 64∧i<k∧k≤i+bs.length
 | [],acc,i,n,k,_,_,_,h=>by rw[dec] at h;cases h
 | b :: r,acc,i,n,k,hb,hi,ha,h=>by
   have hbb:=hb b (by simp)
   rw[dec] at h
   split at h
   · cases h
   rename_i hc
   split at h
   · cases h
     refine⟨?_,by omega,by simp⟩
     by_cases h9:i=9
     · subst h9
       have:(b % 128).toNat≤1:=by omega
       have h2:(b % 128).toNat*2 ^ (7*9)≤1*2 ^ (7*9):=Nat.mul_le_mul_right _ this
       have h3:(2:Nat) ^ (7*9)+2 ^ (7*9)=2 ^ 64:=by decide
       omega
     have:=jv acc i b ha
     have h2:2 ^ (7*(i+1))≤2 ^ 64:=Nat.pow_le_pow_right (by decide) (by omega)
     omega
   rename_i h128
   by_cases h9:i=9
   · exfalso;omega
   have:=ue r _ (i+1) n k (fun x hx=>hb x (by simp [hx])) (by omega) (jv acc i b ha) h
   simp;omega
def i3(bs:List Int)(e most:Int):Int×List Int×Int:=
 if e=0 then match dec 0 0 bs with
   | .err er=>(0,[],er)
   | .ok n k=>if most<n then (0,[],22) else (n,bs.drop k,0)
 else (0,bs,e)
end
section
def zF(bs:List Int)(e most:Int):List Int×List Int×Int:=
 if (i3 bs e (max most 0)).2.2=0 then
   if ((i3 bs e (max most 0)).2.1.length:Int)<(i3 bs e (max most 0)).1 then ([],[],21)
   else ((i3 bs e (max most 0)).2.1.take (i3 bs e (max most 0)).1.toNat,(i3 bs e (max most 0)).2.1.drop (i3 bs e (max most 0)).1.toNat,0)
 else ([],(i3 bs e (max most 0)).2.1,(i3 bs e (max most 0)).2.2)
theorem IsLists.lit(w:World)(us:List Value)(ls:List (List Int))(N T)(n c:Nat)(hN:N=w.heap.size)(hn:n=us.length)(hl:us.length=ls.length)(h:∀ j,j<us.length→IsNums .u8 w (us.getD j default) (ls.getD j [])) :
   IsLists (w.alloc (.cells us.toArray T)) (.slice (some ⟨N,0,none⟩) n c) ls:=by
 subst hN;subst hn
 refine⟨_,c,by rw[hl],.inr ⟨_,0,rfl,by simp,fun j hj =>?_⟩⟩
 refine⟨us.getD j default,?_,(h j (by omega)).alloc _⟩
 unfold World.cell? World.alloc
 simp [List.getD,show j<us.length by omega]
theorem IsLists.one(w:World)(u bs N T)(hN:N=w.heap.size)(h:IsNums .u8 w u bs):IsLists (w.alloc (.cells #[u] T)) (.slice (some ⟨N,0,none⟩) 1 1) [bs]:=
 IsLists.lit w [u] [bs] N T 1 1 hN rfl rfl (fun j hj=>by
   rcases j with _|j
   · exact h
   simp at hj)
theorem NumsLt.ofOwn{w:World}{zs:List Int}(h:w.ownsRow B e 1 v n (zs.map (Value.int k))):NumsLt w.heap.size k w v zs:=by
 have hn:n=zs.length:=by have:=h.1;simpa using this.symm
 subst hn
 rcases h.2 with ⟨rfl,h0⟩|⟨g,cap,cur,rfl,hg,hb,h1,h2,h3,h4⟩
 · obtain rfl:=List.length_eq_zero_iff.1 h0
   exact⟨none,0,rfl,Nat.le_refl _,by omega,.inl rfl⟩
 refine⟨_,cap,rfl,h1,h2,.inr ⟨g,0,rfl,(Array.getElem?_eq_some_iff.1 hb).1,fun j hj =>?_⟩⟩
 have:=h.cellAt j (by omega)
 rw[Nat.zero_add,this]
 simp [hj,List.getD]
theorem NumsLt.take{w:World}{len c:Nat}{zs:List Int}(h:NumsLt N k w (.slice a len c) zs)(n)(hn:n≤zs.length):NumsLt N k w (.slice a n c) (zs.take n):=by
 obtain⟨a',c',e,h1,h2,h3⟩:=h
 injection e with e1 e2 e3
 subst e1;subst e3
 refine⟨a,c,by simp [hn],by simp;omega,h2,?_⟩
 rcases h3 with h3|⟨b,off,rfl,hb,hc⟩
 · left;simp;omega
 right
 refine⟨b,off,rfl,hb,fun j hj =>?_⟩
 simp at hj
 rw[hc j (by omega)]
 simp only [List.getD,List.getElem?_take]
 rw[if_pos (by omega)]
theorem IsReader.set{w:World}{len c n:Nat}{bs:List Int}{e:Int}(h:IsReader w B (.slice a len c) bs e)(hn:n≤bs.length)(a' c')(hc1:bs.length - n≤c')(hc2:c'≤9223372036854775807)(ha:∀ b off,a=some ⟨b,off,none⟩→bs.length - n=0∨a'=some ⟨b,off+n,none⟩):IsReader (w.setCell ⟨B,0,none⟩ (.slice a' (bs.length - n) c')) B (.slice a' (bs.length - n) c') (bs.drop n) e:=by
 obtain⟨h0,h1,h2,h3,⟨p,c0,ep,hc3,hc4,hcells⟩,h5⟩:=h
 injection ep with e1 e2 e3
 subst e1;subst e3
 rcases hcells with hz|⟨b,off,rfl,hblk,hcell⟩
 · have hn0:bs=[]:=List.length_eq_zero_iff.1 hz
   subst hn0
   refine⟨World.cell?_setCell_same _ _ _ h0,?_,by rw[World.frozen?_setCell];exact h2,by rw[World.frozen?_setCell];exact h3,⟨a',c',by simp,by simp,hc2,.inl (by simp)⟩,by simp⟩
   rw[World.cell?_setCell_other _ _ _ _ (by simp)];exact h1
 exact nL (c:=c) h0 h1 h2 h3 hblk hcell h5 hn hc1 hc2 (ha b off rfl)
def yw(w:World)(B:Nat)(r:List Int×List Int×Int)(en:Ending)(w':World):Prop:=
 ∃ u,en=.returned u∧w'.ownsRow w.heap.size 5 1 u r.1.length (r.1.map (Value.int .u8))∧∃ v',IsReader w' B v' r.2.1 r.2.2∧Only B w w'
end
section
def Low(N:Nat)(w0:World):World→Prop:=fun W=>Below N w0 W
section
variable {P:Program} {ops:Array Oper} {Q:Exit→Act→World→Prop} {md:Region.Mode} {w0:World} {N:Nat}
end
end
section
theorem rL(rest):∀ (f n i acc:Nat),i+f=9→n*2 ^ (7*i)<2 ^ 64→(0<i→n≠0)→dec acc i (lX f n++rest)=.ok (acc+n*2 ^ (7*i)) (i+(lX f n).length)
 | 0,n,i,acc,hi,hb,hz=>by
   obtain rfl:i=9:=by omega
   have hn:n≤1:=by omega
   have h0:=hz (by omega)
   obtain rfl:n=1:=by omega
   simp [lX,dec]
 | f+1,n,i,acc,hi,hb,hz=>by
   unfold lX
   by_cases h:n<128
   · rw[if_pos h]
     have hc:¬ ((i=9∧(1:Int)<(n:Int))∨(0<i∧(n:Int)=0)):=by omega
     simp only [List.cons_append,List.nil_append,dec]
     rw[if_neg hc,if_pos (by omega)]
     rw[show((n:Int) % 128).toNat=n by omega]
     simp
   rw[if_neg h]
   have hc:¬ ((i=9∧(1:Int)<((n % 128+128:Nat):Int))∨(0<i∧((n % 128+128:Nat):Int)=0)):=by omega
   simp only [List.cons_append,dec]
   rw[if_neg hc,if_neg (by omega)]
   have hpow:(2:Nat) ^ (7*(i+1))=128*2 ^ (7*i):=by rw[show 7*(i+1)=7+7*i by omega,Nat.pow_add]
   have hdm:128*(n / 128)+n % 128=n:=Nat.div_add_mod n 128
   have hmul:n / 128*2 ^ (7*(i+1))=128*(n / 128)*2 ^ (7*i):=by rw[hpow];ac_rfl
   have hle:128*(n / 128)*2 ^ (7*i)≤n*2 ^ (7*i):=Nat.mul_le_mul_right _ (by omega)
   rw[rL rest f (n / 128) (i+1) _ (by omega) (by omega) (by omega)]
   rw[show(((n % 128+128:Nat):Int) % 128).toNat=n % 128 by omega,hmul]
   have hsum:n*2 ^ (7*i)=128*(n / 128)*2 ^ (7*i)+n % 128*2 ^ (7*i):=by rw[← Nat.add_mul,hdm]
   rw[hsum]
   simp
   constructor <;> omega
theorem wc(x:Int)(h0:0≤x)(h1:x≤18446744073709551615)(rest):dec 0 0 (enc x++rest)=.ok x.toNat (enc x).length:=by
 have:=rL rest 9 x.toNat 0 0 (by omega) (by simp;omega) (by omega)
 simpa [enc] using this
theorem kY(x:Int)(h1:x≤18446744073709551615):∀ b∈enc x,0≤b∧b≤255:=by
 have:∀ (f n:Nat),n<128 ^ (f+1)→∀ b∈lX f n,0≤b∧b≤255:=by
   intro f
   induction f with
   | zero=>intro n hn b hb;simp [lX] at hb hn;omega
   | succ f ih =>
     intro n hn b hb
     unfold lX at hb
     split at hb
     · simp at hb;omega
     rcases List.mem_cons.1 hb with rfl|hb
     · omega
     refine ih (n / 128) ?_ b hb
     rw[Nat.pow_succ] at hn
     exact Nat.div_lt_of_lt_mul (by rw[Nat.mul_comm];exact hn)
 refine this 9 x.toNat ?_
 have:(128:Nat) ^ 10=1180591620717411303424:=by decide
 omega
theorem rC(x:Int)(h0:0≤x)(h1:x≤18446744073709551615)(rest)(most:Int)(hm:x≤most):i3 (enc x++rest) 0 most=(x,rest,0):=by
 unfold i3
 rw[if_pos rfl,wc x h0 h1 rest]
 simp only []
 rw[if_neg (by omega)]
 simp;omega
theorem nm(bs)(e most:Int)(h:e≠0):i3 bs e most=(0,bs,e):=by rw[i3,if_neg h]
theorem IsNums.drew{w:World}(h:IsNums k w v zs):IsNums k w.drew v zs:=h.below (Below.refl w.heap.size w).drew (Nat.le_refl _)
theorem IsLists.nil(w:World)(a)(c:Nat):IsLists w (.slice a 0 c) []:=⟨a,c,rfl,.inl rfl⟩
theorem IsNums.after{w w':World}{o:Obj}(h:IsNums k w v zs)(hb:Below (w.alloc o).heap.size (w.alloc o) w'):IsNums k w' v zs:=(h.alloc o).below hb (Nat.le_refl _)
theorem j2{a b:List Int}(ha:∀ x∈a,0≤x∧x≤255)(hb:∀ x∈b,0≤x∧x≤255):((strOfNums a).toList == (strOfNums b).toList)=decide (a=b):=by
 rw[Bool.eq_iff_iff]
 simp only [beq_iff_eq,decide_eq_true_eq]
 constructor
 · intro h
   refine uR ha hb (bytes_inj ?_)
   rw[← ByteArray.toList_eq,← ByteArray.toList_eq]
   exact h
 rintro rfl;rfl
end
section
section
variable {P:Program} {a:Act} {w:World} {K:Act→World→Prop} {Q:Exit→Act→World→Prop}
end
theorem NumsOff.ofOwn{bad:Nat→Prop}{w:World}{zs:List Int}(h:w.ownsRow base e 1 v n (zs.map (Value.int .u8)))(hb:∀ k,base≤k→k<w.heap.size→¬ bad k):NumsOff bad w v zs:=by
 have hn:n=zs.length:=by have:=h.1;simpa using this.symm
 subst hn
 rcases h.2 with ⟨rfl,h0⟩|⟨g,cap,cur,rfl,hg,hbk,h1,h2,h3,h4⟩
 · obtain rfl:=List.length_eq_zero_iff.1 h0;exact NumsOff.nil _ _ none 0
 have hlt:=(Array.getElem?_eq_some_iff.1 hbk).1
 refine⟨_,cap,rfl,.inr ⟨g,0,rfl,hlt,hb g hg hlt,fun j hj =>?_⟩⟩
 have:=h.cellAt j (by omega)
 rw[Nat.zero_add,this]
 simp [hj,List.getD]
end
section
section
variable {P:Program} {ops:Array Oper} {rest:List Oper} {a:Act} {w:World} {Q:Exit→Act→World→Prop}
end
theorem Only.keep{a b:World}(h:Only B a b):Keep (fun k=>k=B) a b:=⟨h.os,h.tape,h.output,h.size,fun i hi hn=>h.block i hi (fun e=>hn (show i=B from(by injection e)))⟩
theorem oc(bs)(e most:Int)(m0:0≤most):0≤(i3 bs e most).1∧(i3 bs e most).1≤most:=by
 unfold i3
 split
 · cases dec 0 0 bs with
   | err er=>exact⟨Int.le_refl _,m0⟩
   | ok n k =>
     show 0≤(if most<(n:Int) then ((0:Int),([]:List Int),(22:Int)) else ((n:Int),bs.drop k,0)).1∧(if most<(n:Int) then ((0:Int),([]:List Int),(22:Int)) else ((n:Int),bs.drop k,0)).1≤most
     split
     · exact⟨Int.le_refl _,m0⟩
     show 0≤(n:Int)∧(n:Int)≤most
     omega
 exact⟨Int.le_refl _,m0⟩
end
section
theorem xg(b:Int)(h0:0≤b)(h1:b≤255):bits .and .u8 b 127=b % 128:=by
 have h:∀ z:Fin 256,bits .and .u8 ((z.val:Nat):Int) 127=((z.val:Nat):Int) % 128:=by decide +kernel
 have:=h ⟨b.toNat,by omega⟩
 simp only at this
 rw[show((b.toNat:Nat):Int)=b by omega] at this
 exact this
theorem kr{er:Int}(most:Int)(h:dec 0 0 bs=.err er):i3 bs 0 most=(0,[],er):=by rw[i3,if_pos rfl,h]
theorem jk{bs:List Int}{n k:Nat}(most:Int)(h:dec 0 0 bs=.ok n k):i3 bs 0 most=if most<(n:Int) then (0,[],22) else ((n:Int),bs.drop k,0):=by rw[i3,if_pos rfl,h]
end
section
theorem x7(u:Nat):IntKind.u8.wrap ((BitVec.ofInt IntKind.u8.bits (IntKind.u8.wrap (u:Int)) ||| BitVec.ofInt IntKind.u8.bits 128).toNat)=((u % 128+128:Nat):Int):=by
 have h:=x6 u
 have e:IntKind.u8.wrap (u:Int)=(u:Int) % 256:=by simp [IntKind.wrap,IntKind.signed,IntKind.bits]
 rw[e];exact h
theorem rO{j u:Nat}(hj:j≤9)(hu:(u:Int)<2 ^ (64 - 7*j))(h:128≤u):j+1≤9∧((u / 128:Nat):Int)<2 ^ (64 - 7*(j+1)):=by
 have hc:j=0∨j=1∨j=2∨j=3∨j=4∨j=5∨j=6∨j=7∨j=8∨j=9:=by omega
 rcases hc with rfl|rfl|rfl|rfl|rfl|rfl|rfl|rfl|rfl|rfl <;> simp at hu ⊢ <;> omega
theorem tH(hj:j≤8)(h:128≤u):lX (9 - j) u=((u % 128+128:Nat):Int) :: lX (9 - (j+1)) (u / 128):=by
 obtain⟨f,hf⟩:∃ f,9 - j=f+1:=⟨8 - j,by omega⟩
 rw[hf,show 9 - (j+1)=f by omega,lX,if_neg (by omega)]
theorem wj{j u:Nat}(hj:j≤9)(h:u<128):lX (9 - j) u=[(u:Int)]:=by
 cases hf:9 - j with
 | zero=>rfl
 | succ f=>rw[lX,if_pos h]
theorem jl(x:Int):im [x]=enc x:=by simp [im]
theorem nN(x:Int)(l):im (x :: l)=enc x++im l:=by simp [im]
theorem wk{x:Int}(h:0≤x∧x≤9223372036854775807):∀ k,k < [x].length→0≤[x].getD k 0∧[x].getD k 0<2 ^ 64:=fun k hk=>by
 obtain rfl:k=0:=by simpa using hk
 simp;omega
theorem oy{x:Int}(h:0≤x∧x≤9223372036854775807):∀ k,k < [x].length→0≤[x].getD k 0∧[x].getD k 0≤9223372036854775807:=fun k hk=>by
 obtain rfl:k=0:=by simpa using hk
 simpa using h
def j6(e:Int×List Int):List Int:=enc e.1++(enc e.2.length++e.2)
def ir(es:List (Int×List Int)):List Int:=es.flatMap j6
theorem oH{es:List (Int×List Int)}{e:Int×List Int}(h:es[k]? = some e):ir (es.take (k+1))=ir (es.take k)++j6 e:=by
 rw[jG h];simp [ir]
theorem lh(es:List (Int×List Int))(h:∀ e∈es,e.2.length≤1000):(ir es).length≤1020*es.length:=by
 induction es with
 | nil=>simp [ir]
 | cons e es ih =>
   have h1:=ih (fun x hx=>h x (List.mem_cons_of_mem _ hx))
   have h2:=h e List.mem_cons_self
   have h3:=(i1 e.1).1
   have h4:=(i1 e.2.length).1
   simp only [ir,List.flatMap_cons,List.length_append,List.length_cons,j6] at h1 ⊢
   omega
theorem rP(xs:List Int)(q:Option Addr)(cq)(w0:World)(h0:Rd (fun _=>True) w0 (.slice q xs.length cq) (.ns .u64 xs))(hl:xs.length≤1000000)(hxb:∀ k,k<xs.length→0≤xs.getD k 0∧xs.getD k 0<2 ^ 64) :
   Calls Tryz.prog 92 #[.slice q xs.length cq] w0 fun e w' => ∃ (p:Option Addr) (c:Nat),e=.returned (.slice p (im xs).length c)∧w'.ownsRow w0.heap.size 5 1 (.slice p (im xs).length c) (im xs).length ((im xs).map (Value.int .u8))∧Below w0.heap.size w0 w':=by
 refine i9 Tryz.func92 rfl Tryz.ntmps92 fun Y U =>?_
 have m0:=MemOk.start (fun _=>False) w0
 refine hC U (.assign rfl .nil) fun Y U=>hC U (.assign rfl .nil) fun Y U=>wsk fun K0 hK0=>hC U (.assign rfl .nil) fun Y U=>wp_block<|wp_loop_ghost (fun g a w => ∃ (k:Nat) (b:List Int) (p:Option Addr) (c:Nat),k≤xs.length∧g=xs.length - k∧b=im (xs.take k)∧Has 32 [(0,.slice q xs.length cq),(3,.slice p b.length c),(4,.int .i64 k)] a∧MemOk (cn w0) w0 [(9,.num (.slice p b.length c) 5 .u8 b)] w) (xs.length) ?_ ?_
 · have mz:=m0.nilN 9 5 .u8
   exact⟨0,[],_,_,Nat.zero_le _,rfl,rfl,U.only [0,3,4],mz.only [9]⟩
 clear U m0
 rintro g Y w4 ⟨k,b,p,c,hkl,hg,hbe,U,m4⟩
 refine wsk fun K1 hK1=>hC U (.move rfl<|.move rfl<|.len rfl tX<|.lss rfl rfl .nil) fun Y U=>bc U 9 ?_ ?_
 ·
  intro hb9 U;try simp only [QQ,Qax] at hb9
  have hk:k<xs.length:=by omega
  have hxk:=hxb k hk
  refine wct U<|zss<|hK1 _ _<|wsk fun K2 hK2=>wp_block<|zsr fun K3 hK3=>g9 U (.move rfl<|.move rfl .nil) fun Y U =>?_
  obtain⟨ac,ad,ae,aj,ab⟩:=h0.extN (k) hk
  revert U
  cases ae
  intro U
  refine gz hK3 U (.c rfl (fun _ h_=>ii h_ rfl rfl tX yz (k) rfl hk)<|.loadAt1 (ab m4 rfl) (q:=0) rfl rfl rfl jV rfl<|.assign rfl<|.nil) fun Y U=>wsk fun K4 hK4=>wp_block<|wp_loop_ghost (fun g a w => ∃ (j u:Nat) (b:List Int) (p:Option Addr) (c:Nat),j≤9∧(u:Int)<2 ^ (64 - 7*j)∧g=u∧b.length≤10*k+j∧b++lX (9 - j) u=im (xs.take k)++enc (xs.getD k 0)∧Has 32 [(0,.slice (some ⟨ac,ad,none⟩) xs.length cq),(3,.slice p b.length c),(4,.int .i64 k),(5,.int .u64 (u:Int))] a∧MemOk (cn w0) w0 [(9,.num (.slice p b.length c) 5 .u8 b)] w) ((xs.getD k 0).toNat) ?_ ?_
  · obtain⟨u0,hu0⟩:∃ u:Nat,xs.getD k 0=u:=⟨(xs.getD k 0).toNat,by omega⟩
    rw[hu0] at U
    exact⟨0,u0,b,_,_,by omega,by have:=hxk.2;rw[hu0] at this;simpa using this,by rw[hu0];rfl,by rw[hbe];have:=ic (xs.take k);rw[List.length_take] at this;omega,by rw[hbe,hu0];rfl,U.only [0,3,4,5],m4.only [9]⟩
  clear U m4
  rintro g Y ao ⟨j,u,b,p,c,hj9,hu1,hg2,hbl2,hbe2,U,ag⟩
  refine wsk fun K5 hK5=>hC U (.move rfl<|.geq rfl rfl .nil) fun Y U=>bc U 17 ?_ ?_
  ·
   intro aa U;try simp only [QQ,Qax] at aa
   have hub:128≤u:=by omega
   have hz:IntKind.u8.wrap ((BitVec.ofInt IntKind.u8.bits (IntKind.u8.wrap (u:Int)) ||| BitVec.ofInt IntKind.u8.bits 128).toNat)=((u % 128+128:Nat):Int):=x7 u
   obtain⟨hj8,hu2⟩:=rO hj9 hu1 (by omega)
   refine wct U<|zss<|hK5 _ _<|wp_block<|zsr fun K6 hK6=>g9 U (.move rfl<|.move rfl<|.conv rfl jV U5 rfl<|.or rfl rfl (r:=((u % 128+128:Nat):Int)) hz .nil) fun Y U=>plz<|iv U ag 200 (k:=.u8) rfl rfl U22 jU rfl rfl rfl rfl fun ap Y aq U ah=>plz<|iC U ah 9 rfl rfl rfl (ah.numsO (i:=200) rfl) U22 jU (by decide) (by simp;omega) rfl fun ar au Y av U ak=>gz hK6 U (.assign rfl .nil) fun Y U =>?_
   replace U:=U.oz [0,3,4,5]
   refine wp_region_lit<|g9 U (.move rfl<|.shr rfl rfl (by decide) (r:=((u / 128:Nat):Int)) (by rw[show(2:Int) ^ min (7:Int).toNat IntKind.u64.bits=128 from by decide,Int.fdiv_eq_ediv_of_nonneg _ (by decide)];omega)<|.assign rfl .nil) fun Y U=>wpList_nil ?_
   show ∃ n',n'<_∧_
   exact⟨u / 128,by omega,j+1,u / 128,_,_,_,hj8,by omega,rfl,by simp;omega,by rw[← hbe2,tH (by omega) hub,List.append_assoc];try rfl,U.only [0,3,4,5],ak.only [9]⟩
  intro aa U;try simp only [QQ,Qax] at aa
  have hub:u<128:=by omega
  refine wcf U<|wp_exit<|hK4 _ _<|wp_region_lit<|g9 U (.move rfl<|.move rfl<|.conv rfl jV U5 (r:=(u:Int)) (IntWalk.u8_in _ (by omega)) .nil) fun Y U=>plz<|iv U ag 200 (k:=.u8) rfl rfl U22 jU rfl rfl rfl rfl fun aw Y ax U ai=>plz<|iC U ai 9 rfl rfl rfl (ai.numsO (i:=200) rfl) U22 jU (by decide) (by simp;omega) rfl fun ay az Y aA U al=>gz hK2 U (.assign rfl .nil) fun Y U =>?_
  replace U:=U.oz [0,3,4,5]
  refine wp_region_lit<|g9 U (.move rfl<|.inc (k+1)<|.assign rfl .nil) fun Y U=>wpList_nil ?_
  show ∃ n',n'<_∧_
  exact⟨xs.length - (k+1),by omega,k+1,_,_,_,by omega,rfl,by rw[jH _ _ hk,← hbe2,wj (by omega) hub];try rfl,U.only [0,3,4],al.only [9]⟩
 intro hb9 U;try simp only [QQ,Qax] at hb9
 revert U
 obtain rfl:k=xs.length:=by omega
 intro U
 refine wcf U<|wp_exit<|hK0 _ _<|hC U (.move rfl<|.assign rfl .nil) fun Y U=>rt1 U ?_
 rw[List.take_length] at hbe
 revert U
 subst hbe
 intro U
 exact⟨_,_,rfl,m4.ok 9 _ rfl,m4.below⟩
theorem jN(xs:List Int)(q:Option Addr)(cq)(w0:World)(h0:Rd (fun _=>True) w0 (.slice q xs.length cq) (.ns .i64 xs))(hl:xs.length≤1000000)(hxb:∀ k,k<xs.length→0≤xs.getD k 0∧xs.getD k 0≤9223372036854775807) :
   Calls Tryz.prog 44 #[.slice q xs.length cq] w0 fun e w' => ∃ (p:Option Addr) (c:Nat),e=.returned (.slice p (im xs).length c)∧w'.ownsRow w0.heap.size 5 1 (.slice p (im xs).length c) (im xs).length ((im xs).map (Value.int .u8))∧Below w0.heap.size w0 w':=by
 refine i9 Tryz.func44 rfl Tryz.ntmps44 fun Y U =>?_
 have m0:=MemOk.start (fun _=>False) w0
 refine hC U (.assign rfl .nil) fun Y U=>hC U (.assign rfl .nil) fun Y U=>wsk fun K0 hK0=>hC U (.assign rfl .nil) fun Y U=>wp_block<|wp_loop_ghost (fun g a w => ∃ (k:Nat) (b:List Int) (p:Option Addr) (c:Nat),k≤xs.length∧g=xs.length - k∧b=im (xs.take k)∧Has 21 [(0,.slice q xs.length cq),(3,.slice p b.length c),(4,.int .i64 k)] a∧MemOk (cn w0) w0 [(9,.num (.slice p b.length c) 5 .u8 b)] w) (xs.length) ?_ ?_
 · have mz:=m0.nilN 9 5 .u8
   exact⟨0,[],_,_,Nat.zero_le _,rfl,rfl,U.only [0,3,4],mz.only [9]⟩
 clear U m0
 rintro g Y w4 ⟨k,b,p,c,hkl,hg,hbe,U,m4⟩
 refine wsk fun K1 hK1=>hC U (.move rfl<|.move rfl<|.len rfl U48<|.lss rfl rfl .nil) fun Y U=>bc U 8 ?_ ?_
 ·
  intro hb9 U;try simp only [QQ,Qax] at hb9
  have hk:k<xs.length:=by omega
  have hxk:=hxb k hk
  refine wct U<|zss<|hK1 _ _<|wsk fun K2 hK2=>wp_block<|wp_region_lit<|g9 U (.move rfl<|.move rfl<|.move rfl .nil) fun Y U =>?_
  obtain⟨ae,ag,ab,ah,aa⟩:=h0.extN (k) hk
  revert U
  cases ab
  intro U
  refine g9 U (.c rfl (fun _ h_=>ii h_ rfl rfl U48 iP (k) rfl hk)<|.loadAt1 (aa m4 rfl) (q:=0) rfl rfl rfl U2 rfl<|.conv rfl U2 jV (r:=xs.getD k 0) (IntWalk.u64_in _ (by omega)) .nil) fun Y U=>plz (iv U m4 100 (k:=.u64) rfl rfl tX pW rfl rfl rfl rfl fun ak Y al U ai =>?_)
  have ac:=ai.freezeN 100 rfl
  refine plz<|ecn U Tryz.func92 rfl ac 101 (rP [xs.getD k 0] _ _ _ ((ac.rd (i:=100) rfl).any) (by simp) (wk (by omega))) fun ao ap Y aq U ad=>plz<|iC U ad 9 rfl rfl rfl (ad.numsO (i:=101) rfl) U22 jU (by decide) (by rw[hbe];have h8:=ic (xs.take k);rw[List.length_take] at h8;have h9:=ic [xs.getD k 0];rw[List.length_singleton] at h9;omega) rfl fun ar au Y av U aj=>gz hK2 U (.assign rfl .nil) fun Y U =>?_
  replace U:=U.oz [0,3,4]
  refine wp_region_lit<|g9 U (.move rfl<|.inc (k+1)<|.assign rfl .nil) fun Y U=>wpList_nil ?_
  show ∃ n',n'<_∧_
  exact⟨xs.length - (k+1),by omega,k+1,_,_,_,by omega,rfl,by rw[jH _ _ hk,← hbe,jl],U.only [0,3,4],aj.only [9]⟩
 intro hb9 U;try simp only [QQ,Qax] at hb9
 revert U
 obtain rfl:k=xs.length:=by omega
 intro U
 refine wcf U<|wp_exit<|hK0 _ _<|hC U (.move rfl<|.assign rfl .nil) fun Y U=>rt1 U ?_
 rw[List.take_length] at hbe
 revert U
 subst hbe
 intro U
 exact⟨_,_,rfl,m4.ok 9 _ rfl,m4.below⟩
theorem pJ(xs:List Int)(q:Option Addr)(cq:Nat)(w0:World)(h0:Rd (fun _=>True) w0 (.slice q xs.length cq) (.ns .i64 xs))(hl:xs.length≤1000000)(hxb:∀ k,k<xs.length→0≤xs.getD k 0∧xs.getD k 0≤9223372036854775807) :
   Calls Tryz.prog 93 #[.slice q xs.length cq] w0 fun e w' => ∃ (p:Option Addr) (c:Nat),e=.returned (.slice p (im xs).length c)∧w'.ownsRow w0.heap.size 5 1 (.slice p (im xs).length c) (im xs).length ((im xs).map (Value.int .u8))∧Below w0.heap.size w0 w':=by
 refine i9 Tryz.func93 rfl Tryz.ntmps93 fun Y U =>?_
 have m0:=MemOk.start (fun _=>False) w0
 refine hC U (.assign rfl .nil) fun Y U=>hC U (.assign rfl .nil) fun Y U=>wsk fun K0 hK0=>hC U (.assign rfl .nil) fun Y U=>wp_block<|wp_loop_ghost (fun g a w => ∃ (k:Nat) (b:List Int) (p:Option Addr) (c:Nat),k≤xs.length∧g=xs.length - k∧b=im (xs.take k)∧Has 21 [(0,.slice q xs.length cq),(3,.slice p b.length c),(4,.int .i64 k)] a∧MemOk (cn w0) w0 [(9,.num (.slice p b.length c) 5 .u8 b)] w) (xs.length) ?_ ?_
 · have mz:=m0.nilN 9 5 .u8
   exact⟨0,[],_,_,Nat.zero_le _,rfl,rfl,U.only [0,3,4],mz.only [9]⟩
 clear U m0
 rintro g Y w4 ⟨k,b,p,c,hkl,hg,hbe,U,m4⟩
 refine wsk fun K1 hK1=>hC U (.move rfl<|.move rfl<|.len rfl U48<|.lss rfl rfl .nil) fun Y U=>bc U 8 ?_ ?_
 ·
  intro hb9 U;try simp only [QQ,Qax] at hb9
  have hk:k<xs.length:=by omega
  have hxk:=hxb k hk
  refine wct U<|zss<|hK1 _ _<|wsk fun K2 hK2=>wp_block<|wp_region_lit<|g9 U (.move rfl<|.move rfl<|.move rfl .nil) fun Y U =>?_
  obtain⟨ae,ag,ab,ah,aa⟩:=h0.extN (k) hk
  revert U
  cases ab
  intro U
  refine g9 U (.c rfl (fun _ h_=>ii h_ rfl rfl U48 iP (k) rfl hk)<|.loadAt1 (aa m4 rfl) (q:=0) rfl rfl rfl U2 rfl<|.conv rfl U2 jV (r:=xs.getD k 0) (IntWalk.u64_in _ (by omega)) .nil) fun Y U=>plz (iv U m4 100 (k:=.u64) rfl rfl tX pW rfl rfl rfl rfl fun ak Y al U ai =>?_)
  have ac:=ai.freezeN 100 rfl
  refine plz<|ecn U Tryz.func92 rfl ac 101 (rP [xs.getD k 0] _ _ _ ((ac.rd (i:=100) rfl).any) (by simp) (wk (by omega))) fun ao ap Y aq U ad=>plz<|iC U ad 9 rfl rfl rfl (ad.numsO (i:=101) rfl) U22 jU (by decide) (by rw[hbe];have h8:=ic (xs.take k);rw[List.length_take] at h8;have h9:=ic [xs.getD k 0];rw[List.length_singleton] at h9;omega) rfl fun ar au Y av U aj=>gz hK2 U (.assign rfl .nil) fun Y U =>?_
  replace U:=U.oz [0,3,4]
  refine wp_region_lit<|g9 U (.move rfl<|.inc (k+1)<|.assign rfl .nil) fun Y U=>wpList_nil ?_
  show ∃ n',n'<_∧_
  exact⟨xs.length - (k+1),by omega,k+1,_,_,_,by omega,rfl,by rw[jH _ _ hk,← hbe,jl],U.only [0,3,4],aj.only [9]⟩
 intro hb9 U;try simp only [QQ,Qax] at hb9
 revert U
 obtain rfl:k=xs.length:=by omega
 intro U
 refine wcf U<|wp_exit<|hK0 _ _<|hC U (.move rfl<|.assign rfl .nil) fun Y U=>rt1 U ?_
 rw[List.take_length] at hbe
 revert U
 subst hbe
 intro U
 exact⟨_,_,rfl,m4.ok 9 _ rfl,m4.below⟩
theorem wl(xs:List Int)(q:Option Addr)(cq:Nat)(w0:World)(h0:Rd (fun _=>True) w0 (.slice q xs.length cq) (.ns .u8 xs))(hl:xs.length≤1000000) :
   Calls Tryz.prog 94 #[.slice q xs.length cq] w0 fun e w' => ∃ (p:Option Addr) (c:Nat),e=.returned (.slice p (enc xs.length++xs).length c)∧w'.ownsRow w0.heap.size 5 1 (.slice p (enc xs.length++xs).length c) (enc xs.length++xs).length ((enc xs.length++xs).map (Value.int .u8))∧Below w0.heap.size w0 w':=by
 refine i9 Tryz.func94 rfl Tryz.ntmps94 fun Y U =>?_
 have m0:=MemOk.start (fun _=>False) w0
 refine hC U (.assign rfl .nil) fun Y U=>zsr fun K0 hK0=>g9 U (.move rfl<|.len rfl U22<|.conv rfl U3 jV (r:=(xs.length:Int)) (IntWalk.u64_in _ (by omega)) .nil) fun Y U=>plz (iv U m0 20 (k:=.u64) rfl rfl tX pW rfl rfl rfl rfl fun g8 Y w9 U m9 =>?_)
 have ab:=m9.freezeN 20 rfl
 refine plz<|ecn U Tryz.func92 rfl ab 21 (rP [(xs.length:Int)] _ _ _ ((ab.rd (i:=20) rfl).any) (by simp) (wk (by omega))) fun ad ae Y ag U ac=>g9 U (.move rfl .nil) fun Y U=>plz<|iC U ac 21 rfl rfl rfl (h0.now' ac rfl).ns_out.nums U22 jU (by decide) (by have h9:=ic [(xs.length:Int)];rw[List.length_singleton] at h9;omega) rfl fun ah ai Y aj U aa=>gz hK0 U (.assign rfl .nil) fun Y U=>rt1 U ?_
 have hE:im [(xs.length:Int)]++xs=enc xs.length++xs:=by rw[jl]
 rw[hE] at aa
 exact⟨_,_,by rw[hE],aa.ok 21 _ rfl,aa.below⟩
theorem pC(xs:List Int)(q:Option Addr)(cq)(w0:World)(h0:Rd (fun _=>True) w0 (.slice q xs.length cq) (.ns .i64 xs))(hl:xs.length≤1000000)(hxb:∀ k,k<xs.length→0≤xs.getD k 0∧xs.getD k 0≤9223372036854775807) :
   Calls Tryz.prog 45 #[.slice q xs.length cq] w0 fun e w' => ∃ (p:Option Addr) (c:Nat),e=.returned (.slice p (im ((xs.length:Int) :: xs)).length c)∧w'.ownsRow w0.heap.size 5 1 (.slice p (im ((xs.length:Int) :: xs)).length c) (im ((xs.length:Int) :: xs)).length ((im ((xs.length:Int) :: xs)).map (Value.int .u8))∧Below w0.heap.size w0 w':=by
 refine i9 Tryz.func45 rfl Tryz.ntmps45 fun Y U =>?_
 have m0:=MemOk.start (fun _=>False) w0
 refine hC U (.assign rfl .nil) fun Y U=>zsr fun K0 hK0=>g9 U (.move rfl<|.len rfl U35 .nil) fun Y U=>plz (iv U m0 20 (k:=.i64) rfl rfl U48 ki rfl rfl rfl rfl fun g6 Y w7 U m7 =>?_)
 have m8:=m7.freezeN 20 rfl
 refine plz<|ecn U Tryz.func44 rfl m8 21 (jN [(xs.length:Int)] _ _ _ ((m8.rd (i:=20) rfl).any) (by simp) (oy (by omega))) fun p9 c9 Y w9 U ae=>gz hK0 U (.assign rfl .nil) fun Y U=>wsk fun K1 hK1=>hC U (.assign rfl .nil) fun Y U=>wp_block<|wp_loop_ghost (fun g a w => ∃ (k:Nat) (b:List Int) (p:Option Addr) (c:Nat),k≤xs.length∧g=xs.length - k∧b=im ((xs.length:Int) :: xs.take k)∧Has 24 [(0,.slice q xs.length cq),(3,.slice p b.length c),(4,.int .i64 k)] a∧MemOk (cn w0) w0 [(9,.num (.slice p b.length c) 5 .u8 b)] w) (xs.length) ?_ ?_
 · exact⟨0,_,_,_,Nat.zero_le _,rfl,by simp,U.only [0,3,4],ae.ren [(9,21)] (by decide)⟩
 clear U ae
 rintro g Y ap ⟨k,b,p,c,hkl,hg,hbe,U,ac⟩
 refine wsk fun K2 hK2=>hC U (.move rfl<|.move rfl<|.len rfl U35<|.lss rfl rfl .nil) fun Y U=>bc U 12 ?_ ?_
 ·
  intro aa U;try simp only [QQ,Qax] at aa
  have hk:k<xs.length:=by omega
  have hxk:=hxb k hk
  refine wct U<|zss<|hK2 _ _<|wsk fun K3 hK3=>wp_block<|wp_region_lit<|g9 U (.move rfl<|.move rfl<|.move rfl .nil) fun Y U =>?_
  obtain⟨ai,aj,ad,ak,ab⟩:=h0.extN (k) hk
  revert U
  cases ad
  intro U
  refine g9 U (.c rfl (fun _ h_=>ii h_ rfl rfl U35 iG (k) rfl hk)<|.loadAt1 (ab ac rfl) (q:=0) rfl rfl rfl U3 rfl .nil) fun Y U=>plz (iv U ac 100 (k:=.i64) rfl rfl U48 ki rfl rfl rfl rfl fun aq Y ar U al =>?_)
  have ag:=al.freezeN 100 rfl
  refine plz<|ecn U Tryz.func44 rfl ag 101 (jN [xs.getD k 0] _ _ _ ((ag.rd (i:=100) rfl).any) (by simp) (oy (by omega))) fun au av Y aw U ah=>plz<|iC U ah 9 rfl rfl rfl (ah.numsO (i:=101) rfl) U22 jU (by decide) (by rw[hbe];have h8:=ic ((xs.length:Int) :: xs.take k);simp only [List.length_cons,List.length_take] at h8;have h9:=ic [xs.getD k 0];rw[List.length_singleton] at h9;omega) rfl fun ax ay Y az U ao=>gz hK3 U (.assign rfl .nil) fun Y U =>?_
  replace U:=U.oz [0,3,4]
  refine wp_region_lit<|g9 U (.move rfl<|.inc (k+1)<|.assign rfl .nil) fun Y U=>wpList_nil ?_
  show ∃ n',n'<_∧_
  exact⟨xs.length - (k+1),by omega,k+1,_,_,_,by omega,rfl,by rw[hbe,nN _ (xs.take k),nN _ (xs.take (k+1)),jH _ _ hk,jl,List.append_assoc],U.only [0,3,4],ao.only [9]⟩
 intro aa U;try simp only [QQ,Qax] at aa
 revert U
 obtain rfl:k=xs.length:=by omega
 intro U
 refine wcf U<|wp_exit<|hK1 _ _<|hC U (.move rfl<|.assign rfl .nil) fun Y U=>rt1 U ?_
 rw[List.take_length] at hbe
 revert U
 subst hbe
 intro U
 exact⟨_,_,rfl,ac.ok 9 _ rfl,ac.below⟩
theorem lT(es:List (Int×List Int))(q:Option Addr)(nn cq)(w0:World)(h0:Rd (fun _=>True) w0 (.slice q nn cq) (.l 2 (es.map itD)))(hl:es.length≤10000)(hok:∀ e∈es,(0≤e.1∧e.1≤9223372036854775807)∧e.2.length≤1000) :
   Calls Tryz.prog 46 #[.slice q nn cq] w0 fun e w' => ∃ (p:Option Addr) (c:Nat),e=.returned (.slice p (enc es.length++ir es).length c)∧w'.ownsRow w0.heap.size 5 1 (.slice p (enc es.length++ir es).length c) (enc es.length++ir es).length ((enc es.length++ir es).map (Value.int .u8))∧Below w0.heap.size w0 w':=by
 obtain rfl:nn=es.length:=by obtain⟨pq,c9,hv,_⟩:=h0.l_shape;injection hv with _ e2 _;rw[List.length_map] at e2;exact e2
 refine i9 Tryz.func46 rfl Tryz.ntmps46 fun Y U =>?_
 have m0:=MemOk.start (fun _=>False) w0
 refine hC U (.assign rfl .nil) fun Y U=>zsr fun K0 hK0=>g9 U (.move rfl<|.len rfl U36 .nil) fun Y U=>plz (iv U m0 20 (k:=.i64) rfl rfl U48 ki rfl rfl rfl rfl fun g6 Y w7 U m7 =>?_)
 have m8:=m7.freezeN 20 rfl
 refine plz<|ecn U Tryz.func93 rfl m8 21 (pJ [(es.length:Int)] _ _ _ ((m8.rd (i:=20) rfl).any) (by simp) (oy (by omega))) fun p9 c9 Y w9 U az=>gz hK0 U (.assign rfl .nil) fun Y U=>wsk fun K1 hK1=>hC U (.assign rfl .nil) fun Y U=>wp_block<|wp_loop_ghost (fun g a w => ∃ (k:Nat) (b:List Int) (p:Option Addr) (c:Nat),k≤es.length∧g=es.length - k∧b=enc es.length++ir (es.take k)∧Has 32 [(0,.slice q es.length cq),(3,.slice p b.length c),(4,.int .i64 k)] a∧MemOk (cn w0) w0 [(9,.num (.slice p b.length c) 5 .u8 b)] w) (es.length) ?_ ?_
 · exact⟨0,_,_,_,Nat.zero_le _,rfl,by rw[jl];simp [ir],U.only [0,3,4],az.ren [(9,21)] (by decide)⟩
 clear U az
 rintro g Y aN ⟨k,b,p,c,hkl,hg,hbe,U,aj⟩
 refine wsk fun K2 hK2=>hC U (.move rfl<|.move rfl<|.len rfl U36<|.lss rfl rfl .nil) fun Y U=>bc U 12 ?_ ?_
 ·
  intro ad U;try simp only [QQ,Qax] at ad
  have hk:k<es.length:=by omega
  obtain⟨⟨xb,xd⟩,hes⟩:∃ e,es[k]? = some e:=⟨_,List.getElem?_eq_getElem hk⟩
  have hed:=hok _ (List.mem_of_getElem? hes)
  dsimp only at hed
  refine wct U<|zss<|hK2 _ _<|wsk fun K3 hK3=>wp_block ?_
  obtain⟨aD,aE,aF,ak,aG,al,ag⟩:=h0.extA (k) (r:=[.v (.int .i64 xb),.ns .u8 xd]) (iB hes)
  revert U
  cases ak
  rcases al with _|⟨aa,_|⟨ae,_|_⟩⟩
  obtain rfl:=aa.v_out
  clear aa
  obtain⟨aO,aP,ao,aH⟩:=ae.ns_shape;subst ao
  intro U
  obtain⟨aI,aJ,aK,ap,aL,aq,ah⟩:=h0.extA (k) (r:=[.v (.int .i64 xb),.ns .u8 xd]) (iB hes)
  revert U
  cases ap
  rcases aq with _|⟨ab,_|⟨ac,_|_⟩⟩
  obtain rfl:=ab.v_out
  clear ab
  obtain⟨aQ,aR,ar,aM⟩:=ac.ns_shape;subst ar
  intro U
  have au:=aj.oz [9]
  refine region_p 17 (B:=[]) (au.to trivial) au (by kernel_rfl) (fun aS ai aA =>?_);clear au
  refine goR ai [0,1,2,3,4,5,9,10,11,12,13] [5,13] 11 0 15935 U (aA.to trivial) (.move rfl<|.move rfl<|.move rfl<|.p (fun _ _ h_=>ii h_ rfl rfl U36 jA (k) rfl hk)<|.fieldAddrQ 0 rfl U59 rfl (s:=0) (by kernel_rfl) rfl<|.loadAt1 (fun _ h_=>(ag h_ rfl)) (q:=0) rfl rfl rfl U3 rfl<|.move rfl<|.move rfl<|.p (fun _ _ h_=>ii h_ rfl rfl U36 jA (k) rfl hk)<|.fieldAddrQ 1 rfl U59 rfl (s:=0) (by kernel_rfl) rfl<|.loadAt1 (fun _ h_=>(ah h_ rfl)) (q:=1) rfl rfl rfl U22 rfl .nil) fun Y U=>so 6 ?_
  refine iv U aA 102 (k:=.i64) rfl rfl U48 ki rfl rfl rfl rfl fun aT Y aU U aB=>⟨aB.to trivial,?_⟩
  have aC:=aB.freezeN 102 rfl
  refine so 7 ?_
  refine ecn U Tryz.func93 rfl aC 103 (pJ [xb] _ _ _ ((aC.rd (i:=102) rfl).any) (by simp) (oy (by omega))) fun aV aW Y aX U av=>⟨av.to trivial,?_⟩
  refine so 8 ?_
  refine iC U av 9 rfl rfl rfl (av.numsO (i:=103) rfl) U22 jU (by decide) (by rw[hbe];have h8:=lh (es.take k) (fun e he=>(hok e (List.mem_of_mem_take he)).2);rw[List.length_take] at h8;have h9:=ic [xb];rw[List.length_singleton] at h9;have h7:=(i1 es.length).1;have h6:=(i1 xd.length).1;simp only [List.length_append];omega) rfl fun aY aZ Y a0 U aw=>⟨aw.to trivial,?_⟩
  refine so 14 ?_
  refine ecn U Tryz.func94 rfl aw 104 (wl xd _ _ _ ((ac.now' aw rfl).any) (by omega)) fun a1 a2 Y a3 U ax=>⟨ax.to trivial,?_⟩
  refine so 15 ?_
  refine iC U ax 9 rfl rfl rfl (ax.numsO (i:=104) rfl) U22 jU (by decide) (by rw[hbe];have h8:=lh (es.take k) (fun e he=>(hok e (List.mem_of_mem_take he)).2);rw[List.length_take] at h8;have h9:=ic [xb];rw[List.length_singleton] at h9;have h7:=(i1 es.length).1;have h6:=(i1 xd.length).1;simp only [List.length_append];omega) rfl fun a4 a5 Y a6 U ay=>⟨ay.to trivial,?_⟩
  refine goA ai [16] 1 65535 131071 U (ay.to trivial) (.assign rfl .nil) fun Y U=>wad<|hK3 _ _ ?_
  replace U:=U.oz [0,3,4]
  refine wp_region_lit<|g9 U (.move rfl<|.inc (k+1)<|.assign rfl .nil) fun Y U=>wpList_nil ?_
  show ∃ n',n'<_∧_
  exact⟨es.length - (k+1),by omega,k+1,_,_,_,by omega,rfl,by rw[hbe,oH hes,jl];simp only [j6,List.append_assoc],U.only [0,3,4],ay.only [9]⟩
 intro ad U;try simp only [QQ,Qax] at ad
 revert U
 obtain rfl:k=es.length:=by omega
 intro U
 refine wcf U<|wp_exit<|hK1 _ _<|hC U (.move rfl<|.assign rfl .nil) fun Y U=>rt1 U ?_
 rw[List.take_length] at hbe
 revert U
 subst hbe
 intro U
 exact⟨_,_,rfl,aj.ok 9 _ rfl,aj.below⟩
end
section
theorem zf{x:Int}(h0:0≤x)(h1:x≤255):IntKind.u8.wrap (BitVec.ofInt IntKind.u8.bits x &&& BitVec.ofInt IntKind.u8.bits 127).toNat=x % 128:=xg x h0 h1
theorem shx{k:Nat}(hk:k≤9):min (7*(k:Int)).toNat IntKind.u64.bits=7*k:=by
 have:IntKind.u64.bits=64:=rfl
 omega
theorem rM{b:List Int}(h:BytesL b)(hk:k<b.length):0≤b.getD k 0∧b.getD k 0≤255:=by
 rw[List.getD,List.getElem?_eq_getElem hk];exact h _ (List.getElem_mem hk)
theorem uf{b:List Int}(hk:k<b.length):dec u k (b.drop k)=if (k=9∧1<b.getD k 0)∨(0<k∧b.getD k 0=0) then .err 20 else if b.getD k 0<128 then .ok (u+(b.getD k 0 % 128).toNat*2 ^ (7*k)) (k+1) else dec (u+(b.getD k 0 % 128).toNat*2 ^ (7*k)) (k+1) (b.drop (k+1)):=by
 rw[List.drop_eq_getElem_cons hk,dec,List.getD,List.getElem?_eq_getElem hk];rfl
theorem rk{a b:List Int}(h:BytesL (a++b)):BytesL b:=fun x hx=>h x (List.mem_append_right _ hx)
theorem j9(X B v er cd w0)(m0:MemOk X w0 [(1,.box B 115 [v,.int .i64 er])] w0) :
   Calls Tryz.prog 114 #[.pointer (some ⟨B,0,none⟩),.int .i64 cd] w0 fun e w'=>e=.returned (.tuple #[])∧MemOk X w0 [(1,.box B 115 [.slice none 0 0,.int .i64 cd])] w':=by
 refine iZ Tryz.func114 rfl Tryz.ntmps114 fun Y U=>wp_region_lit<|g9 U (.move rfl<|.move rfl<|.move rfl<|.nilCheck rfl<|.fa 0 rfl kH .nil) fun Y U=>plz (st1 U m0 1 nZ fun w6 m6 _ =>?_)
 refine g9 U (.nilCheck rfl<|.fa 1 rfl kH .nil) fun Y U=>plz (st1 U m6 1 iG fun w9 m9 _ =>?_)
 refine wpList_nil ?_
 try dsimp only [Exit.then,Exit.inBlock]
 try refine oU ?_
 refine(y6 (fn:=Tryz.f114) U rfl ?_)
 exact⟨rfl,m9.only [1]⟩
theorem x8(X B)(b:List Int)(er mx p)(c:Nat)(w0)(hb:b.length≤1000000)(hbb:BytesL b)(m0:MemOk X w0 [(1,.box B 115 [.slice p (b).length c,.int .i64 er]),(2,.dat (.slice p (b).length c) (.ns .u8 (b)))] w0) :
   Calls Tryz.prog 65 #[.pointer (some ⟨B,0,none⟩),.int .u64 mx] w0 fun e w' => ∃ (p':Option Addr) (c':Nat),e=.returned (.int .u64 (i3 b er mx).1)∧MemOk X w0 [(1,.box B 115 [.slice p' ((i3 b er mx).2.1).length c',.int .i64 (i3 b er mx).2.2]),(2,.dat (.slice p' ((i3 b er mx).2.1).length c') (.ns .u8 ((i3 b er mx).2.1)))] w':=by
 refine iZ Tryz.func65 rfl Tryz.ntmps65 fun Y U=>hC U (.assign rfl .nil) fun Y U=>wsk fun K0 hK0=>hC U (.move rfl<|.nilCheck rfl<|.fa 1 rfl kH<|.lb m0 1 U3 rfl rfl rfl<|.neq rfl rfl .nil) fun Y U=>bc U 12 ?_ ?_
 ·
  intro hb7 U;try simp only [QQ,Qax] at hb7
  have hN:i3 b er mx=(0,b,er):=nm b er mx (by omega)
  refine wct U<|hC U (.assign rfl .nil) fun Y U=>rt1 U ?_
  rw[hN]
  exact⟨_,_,rfl,m0.ren [(1,1),(2,2)] (by decide)⟩
 intro hb7 U;try simp only [QQ,Qax] at hb7
 revert U
 obtain rfl:er=0:=by omega
 intro U
 refine wcf U<|zss<|hK0 _ _<|hC U (.assign rfl .nil) fun Y U=>wsk fun K1 hK1=>hC U (.assign rfl .nil) fun Y U=>wp_block<|wp_loop_ghost (fun g a w => ∃ (k u:Nat),k≤b.length∧k≤9∧g=b.length - k∧u<2 ^ (7*k)∧dec u k (b.drop k)=dec 0 0 b∧Has 73 [(0,.pointer (some ⟨B,0,none⟩)),(1,.int .u64 mx),(5,.int .u64 (u:Int)),(6,.int .i64 k)] a∧MemOk X w0 [(1,.box B 115 [.slice p (b).length c,.int .i64 0]),(2,.dat (.slice p (b).length c) (.ns .u8 (b)))] w) (b.length) ?_ ?_
 · exact⟨0,0,Nat.zero_le _,Nat.zero_le _,rfl,by decide,rfl,U.only [0,1,5,6],m0.only [1,2]⟩
 clear U m0
 rintro g Y bC ⟨k,u,hkl,hk9,hg,hu,hD0,U,ay⟩
 refine wsk fun K2 hK2=>hC U (.move rfl<|.move rfl<|.nilCheck rfl<|.fa 0 rfl kH<|.lb ay 1 U22 rfl rfl rfl<|.len rfl U22<|.lss rfl rfl .nil) fun Y U=>bc U 19 ?_ ?_
 ·
  intro ap U;try simp only [QQ,Qax] at ap
  have hk:k<b.length:=by omega
  have hxb:=rM hbb hk
  have hD:=hD0
  rw[uf hk] at hD
  refine wct U<|zss<|hK2 _ _<|wsk fun K3 hK3=>wp_block ?_
  replace U:=U.oz [0,1,5,6]
  refine zsr fun K4 hK4=>g9 U (.move rfl<|.nilCheck rfl<|.fa 0 rfl kH<|.lb ay 1 U22 rfl rfl rfl<|.move rfl .nil) fun Y U =>?_
  obtain⟨bE,bF,aN,aa⟩:=ay.openN (i:=2) rfl (k) hk 100 rfl
  revert U
  cases aN
  intro U
  refine gz hK4 U (.c rfl (fun _ h_=>ii h_ rfl rfl U22 jw (k) rfl hk)<|.loadC0 aa (i:=100) rfl rfl U5 rfl<|.assign rfl<|.nil) fun Y U=>wsk fun K5 hK5 =>?_
  replace U:=U.oz [0,1,5,6,7]
  refine zsr fun K6 hK6=>g9 U (.move rfl<|.eql rfl rfl<|.move rfl .nil) fun Y U=>bc U 31 ?_ ?_
  ·
   intro aq U;try simp only [QQ,Qax] at aq
   refine gz hK6 U (.moveZ rfl<|.gtrZ rfl rfl<|.pickT rfl rfl<|.nil) fun Y U=>bc U 34 ?_ ?_
   ·
    intro ar U;try simp only [QQ,Qax] at ar
    have hN:i3 b 0 mx=(0,[],20):=kr mx (by rw[← hD,if_pos (.inl ⟨by omega,by omega⟩)])
    refine wct U ?_
    replace U:=U.oz [0,1,5,6,7]
    refine zsr fun K7 hK7=>g9 U (.move rfl .nil) fun Y U=>plz (ecl U Tryz.func114 rfl (j9 _ _ _ _ _ _ (aa.into [(1,1)] (by decide) rfl)) ?_)
    rintro e bG ⟨rfl,az⟩
    have aO:=aa.back az [(1,1)] (by decide);clear az aa
    have bm:=aO.oz [1,2,100]
    refine⟨_,rfl,?_⟩;intro Y U
    refine znl<|hK7 _ _<|hC U (.assign rfl .nil) fun Y U=>rt1 U ?_
    have bn:=bm.dat 90 rfl (Rd.nilN _ _ .u8 none)
    rw[hN]
    exact⟨_,_,rfl,bn.ren [(1,1),(2,90)] (by decide)⟩
   intro ar U;try simp only [QQ,Qax] at ar
   have h9:k=9→(b.getD k 0)≤1:=by omega
   obtain⟨v,hv⟩:∃ v,u+((b.getD k 0) % 128).toNat*2 ^ (7*k)=v:=⟨_,rfl⟩
   refine wcf U<|zss (hK5 _ _ ?_)
   replace U:=U.oz [0,1,5,6,7]
   refine hC U (.move rfl<|.move rfl<|.and rfl rfl (r:=(b.getD k 0) % 128) (zf hxb.1 hxb.2)<|.conv rfl U5 jV (r:=(b.getD k 0) % 128) (IntWalk.u64_in _ (by omega))<|.move rfl<|.mul rfl rfl (r:=7*(k:Int)) (IntWalk.i64_in _ (by omega))<|.shl rfl rfl (by omega) (r:=IntKind.u64.wrap ((b.getD k 0) % 128*2 ^ (7*k))) (by rw[shx hk9])<|.or rfl rfl (r:=(v:Int)) (by rw[← hv];exact kx u k (b.getD k 0) hu hk9 hxb.1 hxb.2 h9)<|.assign rfl .nil) fun Y U =>?_
   replace U:=U.oz [0,1,5,6,7]
   refine hC U (.move rfl<|.lss rfl rfl .nil) fun Y U=>bc U 46 ?_ ?_
   ·
    intro au U;try simp only [QQ,Qax] at au
    refine wct U<|wsk fun K8 hK8=>zsr fun K9 hK9=>g9 U (.move rfl<|.gtr rfl rfl<|.move rfl .nil) fun Y U=>bc U 49 ?_ ?_
    ·
     intro av U;try simp only [QQ,Qax] at av
     refine gz hK9 U (.moveZ rfl<|.eqlZ rfl rfl<|.pickT rfl rfl<|.nil) fun Y U=>bc U 52 ?_ ?_
     ·
      intro aw U;try simp only [QQ,Qax] at aw
      have hN:i3 b 0 mx=(0,[],20):=kr mx (by rw[← hD,if_pos (.inr ⟨by omega,by omega⟩)])
      refine wct U ?_
      replace U:=U.oz [0,1,5,6]
      refine zsr fun bH aP=>g9 U (.move rfl .nil) fun Y U=>plz (ecl U Tryz.func114 rfl (j9 _ _ _ _ _ _ (aa.into [(1,1)] (by decide) rfl)) ?_)
      rintro e bI ⟨rfl,aA⟩
      have aQ:=aa.back aA [(1,1)] (by decide);clear aA aa
      have bo:=aQ.oz [1,2,100]
      refine⟨_,rfl,?_⟩;intro Y U
      refine znl<|aP _ _<|hC U (.assign rfl .nil) fun Y U=>rt1 U ?_
      have bp:=bo.dat 90 rfl (Rd.nilN _ _ .u8 none)
      rw[hN]
      exact⟨_,_,rfl,bp.ren [(1,1),(2,90)] (by decide)⟩
     intro aw U;try simp only [QQ,Qax] at aw
     have hz:¬ (0<k∧(b.getD k 0)=0):=by omega
     have hno:¬ ((k=9∧1<(b.getD k 0))∨(0<k∧(b.getD k 0)=0)):=fun h=>h.elim (fun h=>by have:=h9 h.1;omega) hz
     have hO:dec 0 0 b=.ok v (k+1):=by rw[← hD,if_neg hno,if_pos (by omega),hv]
     refine wcf U<|zss<|hK8 _ _<|wsk fun bJ aR =>?_
     replace U:=U.oz [0,1,5,6]
     refine hC U (.move rfl<|.move rfl<|.gtr rfl rfl .nil) fun Y U=>bc U 57 ?_ ?_
     ·
      intro ax U;try simp only [QQ,Qax] at ax
      have hN:i3 b 0 mx=(0,[],22):=by rw[jk mx hO,if_pos (by omega)]
      refine wct U<|zsr fun bK aS=>g9 U (.move rfl .nil) fun Y U=>plz (ecl U Tryz.func114 rfl (j9 _ _ _ _ _ _ (aa.into [(1,1)] (by decide) rfl)) ?_)
      rintro e bL ⟨rfl,aB⟩
      have aT:=aa.back aB [(1,1)] (by decide);clear aB aa
      have bq:=aT.oz [1,2,100]
      refine⟨_,rfl,?_⟩;intro Y U
      refine znl<|aS _ _<|hC U (.assign rfl .nil) fun Y U=>rt1 U ?_
      have br:=bq.dat 90 rfl (Rd.nilN _ _ .u8 none)
      rw[hN]
      exact⟨_,_,rfl,br.ren [(1,1),(2,90)] (by decide)⟩
     intro ax U;try simp only [QQ,Qax] at ax
     have hN:i3 b 0 mx=((v:Int),b.drop (k+1),0):=by rw[jk mx hO,if_neg (by omega)]
     refine wcf U<|zss<|aR _ _<|zsr fun bM aU=>g9 U (.move rfl<|.move rfl<|.nilCheck rfl<|.fa 0 rfl kH<|.lb aa 1 U22 rfl rfl rfl<|.move rfl<|.inc (k+1) .nil) fun Y U =>?_
     have aV:=aa.dropN (i:=2) rfl (k+1) (show k+1≤b.length by omega) 101 rfl
     refine g9 U (.c rfl (fun _ h_=>iK h_ (k+1) rfl rfl U22 jw rfl (show k+1≤b.length by omega))<|.nilCheck rfl<|.fa 0 rfl kH .nil) fun Y U=>plz (st1 U aV 1 nZ fun bs aC _ =>?_)
     refine znl (aU _ _ ?_)
     replace U:=U.oz [0,1,5,6,57]
     refine hC U (.move rfl<|.assign rfl .nil) fun Y U=>rt1 U ?_
     have hl9:b.length - (k+1)=(b.drop (k+1)).length:=by rw[List.length_drop]
     rw[hl9] at aC
     rw[hN]
     exact⟨_,_,rfl,aC.ren [(1,1),(2,101)] (by decide)⟩
    intro av U;try simp only [QQ,Qax] at av
    have hz:¬ (0<k∧(b.getD k 0)=0):=by omega
    have hno:¬ ((k=9∧1<(b.getD k 0))∨(0<k∧(b.getD k 0)=0)):=fun h=>h.elim (fun h=>by have:=h9 h.1;omega) hz
    have hO:dec 0 0 b=.ok v (k+1):=by rw[← hD,if_neg hno,if_pos (by omega),hv]
    refine gz hK9 U (.sk<|.sk<|.pickF rfl rfl<|.nil) fun Y U=>wcf U<|zss<|hK8 _ _<|wsk fun bN aW =>?_
    replace U:=U.oz [0,1,5,6]
    refine hC U (.move rfl<|.move rfl<|.gtr rfl rfl .nil) fun Y U=>bc U 57 ?_ ?_
    ·
     intro ab U;try simp only [QQ,Qax] at ab
     have hN:i3 b 0 mx=(0,[],22):=by rw[jk mx hO,if_pos (by omega)]
     refine wct U<|zsr fun bO aX=>g9 U (.move rfl .nil) fun Y U=>plz (ecl U Tryz.func114 rfl (j9 _ _ _ _ _ _ (aa.into [(1,1)] (by decide) rfl)) ?_)
     rintro e bt ⟨rfl,ai⟩
     have aD:=aa.back ai [(1,1)] (by decide);clear ai aa
     have aY:=aD.oz [1,2,100]
     refine⟨_,rfl,?_⟩;intro Y U
     refine znl<|aX _ _<|hC U (.assign rfl .nil) fun Y U=>rt1 U ?_
     have aZ:=aY.dat 90 rfl (Rd.nilN _ _ .u8 none)
     rw[hN]
     exact⟨_,_,rfl,aZ.ren [(1,1),(2,90)] (by decide)⟩
    intro ab U;try simp only [QQ,Qax] at ab
    have hN:i3 b 0 mx=((v:Int),b.drop (k+1),0):=by rw[jk mx hO,if_neg (by omega)]
    refine wcf U<|zss<|aW _ _<|zsr fun bP a0=>g9 U (.move rfl<|.move rfl<|.nilCheck rfl<|.fa 0 rfl kH<|.lb aa 1 U22 rfl rfl rfl<|.move rfl<|.inc (k+1) .nil) fun Y U =>?_
    have a1:=aa.dropN (i:=2) rfl (k+1) (show k+1≤b.length by omega) 101 rfl
    refine g9 U (.c rfl (fun _ h_=>iK h_ (k+1) rfl rfl U22 jw rfl (show k+1≤b.length by omega))<|.nilCheck rfl<|.fa 0 rfl kH .nil) fun Y U=>plz (st1 U a1 1 nZ fun bu aE _ =>?_)
    refine znl (a0 _ _ ?_)
    replace U:=U.oz [0,1,5,6,57]
    refine hC U (.move rfl<|.assign rfl .nil) fun Y U=>rt1 U ?_
    have hl9:b.length - (k+1)=(b.drop (k+1)).length:=by rw[List.length_drop]
    rw[hl9] at aE
    rw[hN]
    exact⟨_,_,rfl,aE.ren [(1,1),(2,101)] (by decide)⟩
   intro au U;try simp only [QQ,Qax] at au
   have hz:¬ (0<k∧(b.getD k 0)=0):=by omega
   have hno:¬ ((k=9∧1<(b.getD k 0))∨(0<k∧(b.getD k 0)=0)):=fun h=>h.elim (fun h=>by have:=h9 h.1;omega) hz
   refine wcf U<|zss<|hK3 _ _<|wp_region_lit<|g9 U (.move rfl<|.inc (k+1)<|.assign rfl .nil) fun Y U=>wpList_nil ?_
   show ∃ n',n'<_∧_
   exact⟨b.length - (k+1),by omega,k+1,v,by omega,by omega,rfl,by rw[← hv];exact jv u k (b.getD k 0) hu,by rw[← hD,if_neg hno,if_neg (by omega),hv],U.only [0,1,5,6],aa.only [1,2]⟩
  intro aq U;try simp only [QQ,Qax] at aq
  have h9:k=9→(b.getD k 0)≤1:=by omega
  obtain⟨v,hv⟩:∃ v,u+((b.getD k 0) % 128).toNat*2 ^ (7*k)=v:=⟨_,rfl⟩
  refine gz hK6 U (.sk<|.sk<|.pickF rfl rfl<|.nil) fun Y U=>wcf U<|zss (hK5 _ _ ?_)
  replace U:=U.oz [0,1,5,6,7]
  refine hC U (.move rfl<|.move rfl<|.and rfl rfl (r:=(b.getD k 0) % 128) (zf hxb.1 hxb.2)<|.conv rfl U5 jV (r:=(b.getD k 0) % 128) (IntWalk.u64_in _ (by omega))<|.move rfl<|.mul rfl rfl (r:=7*(k:Int)) (IntWalk.i64_in _ (by omega))<|.shl rfl rfl (by omega) (r:=IntKind.u64.wrap ((b.getD k 0) % 128*2 ^ (7*k))) (by rw[shx hk9])<|.or rfl rfl (r:=(v:Int)) (by rw[← hv];exact kx u k (b.getD k 0) hu hk9 hxb.1 hxb.2 h9)<|.assign rfl .nil) fun Y U =>?_
  replace U:=U.oz [0,1,5,6,7]
  refine hC U (.move rfl<|.lss rfl rfl .nil) fun Y U=>bc U 46 ?_ ?_
  ·
   intro ac U;try simp only [QQ,Qax] at ac
   refine wct U<|wsk fun bQ aF=>zsr fun bR aG=>g9 U (.move rfl<|.gtr rfl rfl<|.move rfl .nil) fun Y U=>bc U 49 ?_ ?_
   ·
    intro ad U;try simp only [QQ,Qax] at ad
    refine gz aG U (.moveZ rfl<|.eqlZ rfl rfl<|.pickT rfl rfl<|.nil) fun Y U=>bc U 52 ?_ ?_
    ·
     intro ae U;try simp only [QQ,Qax] at ae
     have hN:i3 b 0 mx=(0,[],20):=kr mx (by rw[← hD,if_pos (.inr ⟨by omega,by omega⟩)])
     refine wct U ?_
     replace U:=U.oz [0,1,5,6]
     refine zsr fun bS a2=>g9 U (.move rfl .nil) fun Y U=>plz (ecl U Tryz.func114 rfl (j9 _ _ _ _ _ _ (aa.into [(1,1)] (by decide) rfl)) ?_)
     rintro e bv ⟨rfl,aj⟩
     have aH:=aa.back aj [(1,1)] (by decide);clear aj aa
     have a3:=aH.oz [1,2,100]
     refine⟨_,rfl,?_⟩;intro Y U
     refine znl<|a2 _ _<|hC U (.assign rfl .nil) fun Y U=>rt1 U ?_
     have a4:=a3.dat 90 rfl (Rd.nilN _ _ .u8 none)
     rw[hN]
     exact⟨_,_,rfl,a4.ren [(1,1),(2,90)] (by decide)⟩
    intro ae U;try simp only [QQ,Qax] at ae
    have hz:¬ (0<k∧(b.getD k 0)=0):=by omega
    have hno:¬ ((k=9∧1<(b.getD k 0))∨(0<k∧(b.getD k 0)=0)):=fun h=>h.elim (fun h=>by have:=h9 h.1;omega) hz
    have hO:dec 0 0 b=.ok v (k+1):=by rw[← hD,if_neg hno,if_pos (by omega),hv]
    refine wcf U<|zss<|aF _ _<|wsk fun bT a5 =>?_
    replace U:=U.oz [0,1,5,6]
    refine hC U (.move rfl<|.move rfl<|.gtr rfl rfl .nil) fun Y U=>bc U 57 ?_ ?_
    ·
     intro ag U;try simp only [QQ,Qax] at ag
     have hN:i3 b 0 mx=(0,[],22):=by rw[jk mx hO,if_pos (by omega)]
     refine wct U<|zsr fun bU a6=>g9 U (.move rfl .nil) fun Y U=>plz (ecl U Tryz.func114 rfl (j9 _ _ _ _ _ _ (aa.into [(1,1)] (by decide) rfl)) ?_)
     rintro e bw ⟨rfl,ak⟩
     have aI:=aa.back ak [(1,1)] (by decide);clear ak aa
     have a7:=aI.oz [1,2,100]
     refine⟨_,rfl,?_⟩;intro Y U
     refine znl<|a6 _ _<|hC U (.assign rfl .nil) fun Y U=>rt1 U ?_
     have a8:=a7.dat 90 rfl (Rd.nilN _ _ .u8 none)
     rw[hN]
     exact⟨_,_,rfl,a8.ren [(1,1),(2,90)] (by decide)⟩
    intro ag U;try simp only [QQ,Qax] at ag
    have hN:i3 b 0 mx=((v:Int),b.drop (k+1),0):=by rw[jk mx hO,if_neg (by omega)]
    refine wcf U<|zss<|a5 _ _<|zsr fun bV a9=>g9 U (.move rfl<|.move rfl<|.nilCheck rfl<|.fa 0 rfl kH<|.lb aa 1 U22 rfl rfl rfl<|.move rfl<|.inc (k+1) .nil) fun Y U =>?_
    have ba:=aa.dropN (i:=2) rfl (k+1) (show k+1≤b.length by omega) 101 rfl
    refine g9 U (.c rfl (fun _ h_=>iK h_ (k+1) rfl rfl U22 jw rfl (show k+1≤b.length by omega))<|.nilCheck rfl<|.fa 0 rfl kH .nil) fun Y U=>plz (st1 U ba 1 nZ fun bx aJ _ =>?_)
    refine znl (a9 _ _ ?_)
    replace U:=U.oz [0,1,5,6,57]
    refine hC U (.move rfl<|.assign rfl .nil) fun Y U=>rt1 U ?_
    have hl9:b.length - (k+1)=(b.drop (k+1)).length:=by rw[List.length_drop]
    rw[hl9] at aJ
    rw[hN]
    exact⟨_,_,rfl,aJ.ren [(1,1),(2,101)] (by decide)⟩
   intro ad U;try simp only [QQ,Qax] at ad
   have hz:¬ (0<k∧(b.getD k 0)=0):=by omega
   have hno:¬ ((k=9∧1<(b.getD k 0))∨(0<k∧(b.getD k 0)=0)):=fun h=>h.elim (fun h=>by have:=h9 h.1;omega) hz
   have hO:dec 0 0 b=.ok v (k+1):=by rw[← hD,if_neg hno,if_pos (by omega),hv]
   refine gz aG U (.sk<|.sk<|.pickF rfl rfl<|.nil) fun Y U=>wcf U<|zss<|aF _ _<|wsk fun bW bb =>?_
   replace U:=U.oz [0,1,5,6]
   refine hC U (.move rfl<|.move rfl<|.gtr rfl rfl .nil) fun Y U=>bc U 57 ?_ ?_
   ·
    intro ah U;try simp only [QQ,Qax] at ah
    have hN:i3 b 0 mx=(0,[],22):=by rw[jk mx hO,if_pos (by omega)]
    refine wct U<|zsr fun bX bd=>g9 U (.move rfl .nil) fun Y U=>plz (ecl U Tryz.func114 rfl (j9 _ _ _ _ _ _ (aa.into [(1,1)] (by decide) rfl)) ?_)
    rintro e bz ⟨rfl,al⟩
    have aK:=aa.back al [(1,1)] (by decide);clear al aa
    have be:=aK.oz [1,2,100]
    refine⟨_,rfl,?_⟩;intro Y U
    refine znl<|bd _ _<|hC U (.assign rfl .nil) fun Y U=>rt1 U ?_
    have bf:=be.dat 90 rfl (Rd.nilN _ _ .u8 none)
    rw[hN]
    exact⟨_,_,rfl,bf.ren [(1,1),(2,90)] (by decide)⟩
   intro ah U;try simp only [QQ,Qax] at ah
   have hN:i3 b 0 mx=((v:Int),b.drop (k+1),0):=by rw[jk mx hO,if_neg (by omega)]
   refine wcf U<|zss<|bb _ _<|zsr fun bY bg=>g9 U (.move rfl<|.move rfl<|.nilCheck rfl<|.fa 0 rfl kH<|.lb aa 1 U22 rfl rfl rfl<|.move rfl<|.inc (k+1) .nil) fun Y U =>?_
   have bh:=aa.dropN (i:=2) rfl (k+1) (show k+1≤b.length by omega) 101 rfl
   refine g9 U (.c rfl (fun _ h_=>iK h_ (k+1) rfl rfl U22 jw rfl (show k+1≤b.length by omega))<|.nilCheck rfl<|.fa 0 rfl kH .nil) fun Y U=>plz (st1 U bh 1 nZ fun bA aL _ =>?_)
   refine znl (bg _ _ ?_)
   replace U:=U.oz [0,1,5,6,57]
   refine hC U (.move rfl<|.assign rfl .nil) fun Y U=>rt1 U ?_
   have hl9:b.length - (k+1)=(b.drop (k+1)).length:=by rw[List.length_drop]
   rw[hl9] at aL
   rw[hN]
   exact⟨_,_,rfl,aL.ren [(1,1),(2,101)] (by decide)⟩
  intro ac U;try simp only [QQ,Qax] at ac
  have hz:¬ (0<k∧(b.getD k 0)=0):=by omega
  have hno:¬ ((k=9∧1<(b.getD k 0))∨(0<k∧(b.getD k 0)=0)):=fun h=>h.elim (fun h=>by have:=h9 h.1;omega) hz
  refine wcf U<|zss<|hK3 _ _<|wp_region_lit<|g9 U (.move rfl<|.inc (k+1)<|.assign rfl .nil) fun Y U=>wpList_nil ?_
  show ∃ n',n'<_∧_
  exact⟨b.length - (k+1),by omega,k+1,v,by omega,by omega,rfl,by rw[← hv];exact jv u k (b.getD k 0) hu,by rw[← hD,if_neg hno,if_neg (by omega),hv],U.only [0,1,5,6],aa.only [1,2]⟩
 intro ap U;try simp only [QQ,Qax] at ap
 revert U
 obtain rfl:k=b.length:=by omega
 intro U
 have hN:i3 b 0 mx=(0,[],21):=kr mx (by rw[← hD0,List.drop_length];rfl)
 refine wcf U<|wp_exit<|hK1 _ _ ?_
 replace U:=U.oz [0,1,5,6]
 refine zsr fun bZ bi=>g9 U (.move rfl .nil) fun Y U=>plz (ecl U Tryz.func114 rfl (j9 _ _ _ _ _ _ (ay.into [(1,1)] (by decide) rfl)) ?_)
 rintro e bB ⟨rfl,ao⟩
 have aM:=ay.back ao [(1,1)] (by decide);clear ao ay
 have bj:=aM.oz [1,2]
 refine⟨_,rfl,?_⟩;intro Y U
 refine znl<|bi _ _<|hC U (.assign rfl .nil) fun Y U=>rt1 U ?_
 have bk:=bj.dat 90 rfl (Rd.nilN _ _ .u8 none)
 rw[hN]
 exact⟨_,_,rfl,bk.ren [(1,1),(2,90)] (by decide)⟩
end
end Go.Proofs.YtkehgingagggaaaGreat.K
