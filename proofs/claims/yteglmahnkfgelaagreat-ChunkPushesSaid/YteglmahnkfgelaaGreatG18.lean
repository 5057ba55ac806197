/- General laws of walks. -/
import Derived.Test.YteglmahnkfgelaaGreatG17
import Derived.Test.YteglmahnkfgelaaGreatG1
import Derived.Laws.Bits64
import Derived.RegionTactic
import Derived.ChangeAlike
import Derived.Lib.SlBytesConst
import Derived.Deep.Matrix
import Derived.Test.YteglmahnkfgelaaGreatG9
import Derived.Test.YteglmahnkfgelaaGreatG6
import Derived.Test.YteglmahnkfgelaaGreatG13
namespace Go.Proofs.YteglmahnkfgelaaGreat.K
open Go.ChangeShapes Go.WideShapes Go.ChangeAt Go.RowKit
set_option linter.unusedVariables false
set_option linter.unusedSimpArgs false
set_option maxRecDepth 100000
set_option maxHeartbeats 4000000
set_option autoImplicit true
set_option relaxedAutoImplicit true
section
set_option maxRecDepth 100000 in
set_option maxHeartbeats 2000000 in
theorem wz(n:Nat)(w:World)(hn:n≤1000000) :
   Calls Tryz.prog 86 #[.slice none 0 0,.int .i64 n] w fun e w' => ∃ u,e=.returned u∧w'.ownsRow w.heap.size 5 1 u 0 []∧Below w.heap.size w w':=by
 by_cases h0:n=0
 · subst h0
   go_enter Tryz.func86,Tryz.ntmps86
   go_wp2
   go_ret
   exact⟨_,rfl,World.ownsRow_nil _ _ _ _,Below.refl _ _⟩
 obtain⟨i0,hi,hz0,hz1,hz2⟩:=info_parts pB
 have hbn:n*i0.bytes≤140737488355328:=by rw[hz2];omega
 have hrz:∀ ty,(Builtin.append_ #[22,3] ty #[.slice none 0 0,.int .i64 (n:Int)]).run Tryz.prog w =
     .ok (.slice (some ⟨w.heap.size,0,none⟩) n (grownCap w n 0 5)) (w.drew.alloc (.cells (#[]++Builtin.zeroCells (Value.int .u8 0).cells n++Builtin.zeroCells (Value.int .u8 0).cells (grownCap w n 0 5 - n)) 5)):=fun ty=>by
   have h:=Lib.run_append_grow_zeros w 22 3 ty 5 i0 (.int .u8 0) .i64 .i64 Tryz.underlying22 Tryz.underlying3 hi hz0 none 0 0 [] (run_firstCells_none w.drew i0.size 0 0 0) n (by omega) (by omega) (by omega) (by omega) (by omega)
     (by rw[Nat.zero_add];exact growslice_fits (by omega) hbn)
   rw[Nat.zero_add] at h
   exact h
 have hG:=grownCap_ge w n 0 5
 have hM:=grownCap_le_maxLen w n 0 5 (by unfold maxLen;omega)
 generalize grownCap w n 0 5=G at hrz hG hM
 have hown:(w.drew.alloc (.cells (#[]++Builtin.zeroCells (Value.int .u8 0).cells n++Builtin.zeroCells (Value.int .u8 0).cells (G - n)) 5)).ownsRow w.heap.size 5 1 (.slice (some ⟨w.heap.size,0,none⟩) 0 G) 0 []:=by
   refine World.ownsRow_made w.drew _ G (Nat.le_refl _) hM ?_
   have h1:(Value.int .u8 0).cells.size=1:=rfl
   simp [size_zeroCells,h1]
   omega
 have hbel:Below w.heap.size w (w.drew.alloc (.cells (#[]++Builtin.zeroCells (Value.int .u8 0).cells n++Builtin.zeroCells (Value.int .u8 0).cells (G - n)) 5)):=((Below.refl _ w).drew).alloc (Nat.le_refl _) _
 generalize (w.drew.alloc (.cells (#[]++Builtin.zeroCells (Value.int .u8 0).cells n++Builtin.zeroCells (Value.int .u8 0).cells (G - n)) 5))=W' at hrz hown hbel
 have HO:=Lib.hid hown
 have HB:=Lib.hid hbel
 clear hown hbel hi hz0 hz1 hz2
 unfold maxLen at hM
 go_enter Tryz.func86,Tryz.ntmps86
 go_wp2_with (at_builtin;refine Lib.wpList_append_run _ rfl _ _ _ _ rfl _ _ rfl rfl _ _ (hrz _) ?_)
 all_goals (go_ret;exact⟨_,rfl,HO.out,HB.out⟩)
def IsLists(w:World)(v:Value)(ls:List (List Int)):Prop:=
 ∃ a c,v=.slice a ls.length c∧(ls.length=0∨∃ b off,a=some ⟨b,off,none⟩∧b<w.heap.size∧∀ j,j<ls.length→∃ u,w.cell? ⟨b,off+j,none⟩=some u∧IsNums .u8 w u (ls.getD j []))
def lD(ls:List (List Int)):Nat:=ls.flatten.length
theorem oX(ls:List (List Int))(k:Nat)(h:k<ls.length):(ls.take (k+1)).flatten=(ls.take k).flatten++ls.getD k []:=by
 rw[List.take_succ_eq_append_getElem h];simp only [List.flatten_append,List.flatten_cons,List.flatten_nil,List.append_nil,List.getD,List.getElem?_eq_getElem h,Option.getD_some]
theorem pM(ls:List (List Int))(k:Nat)(h:k<ls.length):lD (ls.take (k+1))=lD (ls.take k)+(ls.getD k []).length:=by
 unfold lD;rw[oX _ _ h,List.length_append]
theorem nu(ls:List (List Int))(k:Nat):lD (ls.take k)≤lD ls:=by
 have:ls.flatten=(ls.take k).flatten++(ls.drop k).flatten:=by rw[← List.flatten_append,List.take_append_drop]
 unfold lD;rw[this];simp
set_option maxRecDepth 100000 in
set_option maxHeartbeats 2000000 in
theorem wA(v:Value)(ls:List (List Int))(w:World)(hv:IsLists w v ls)(hl:ls.length≤1000)(hs:lD ls≤1000000) :
   Calls Tryz.prog 38 #[v] w fun e w' => ∃ u,e=.returned u∧w'.ownsRow w.heap.size 5 1 u ls.flatten.length (ls.flatten.map (Value.int .u8))∧Below w.heap.size w w':=by
 obtain⟨p,c,rfl,h⟩:=hv
 have H:=Lib.hid h
 clear h
 go_enter Tryz.func38,Tryz.ntmps38
 go_wp2
 go_loop [3,11] (fun n i => ∃ k:Nat,k≤ls.length∧i=.int .i64 k∧n=.int .i64 (lD (ls.take k):Nat)) (fun _ i=>ls.length - (intOf i).toNat)
 case atStart=>exact⟨0,Nat.zero_le _,rfl,rfl⟩
 case round =>
   obtain⟨k,hk,rfl,rfl⟩:=hrel
   have hst:=nu ls k
   obtain⟨S0,hS0⟩:∃ S,lD (ls.take k)=S:=⟨_,rfl⟩
   by_cases hlt:k<ls.length
   · obtain h0|⟨b,off,rfl,hblk,hcell⟩:=H.out
     · omega
     obtain⟨u,hc,pu,cu,rfl,-⟩:=hcell k hlt
     have hsn:=pM ls k hlt
     obtain⟨L,hL⟩:∃ L,(ls.getD k []).length=L:=⟨_,rfl⟩
     rw[hL] at hsn hc
     have hst2:=nu ls (k+1)
     rw[hsn] at hst2
     rw[hS0] at hst hsn hst2 ⊢
     have HS:=Lib.hid hsn
     have H0:=Lib.hid hS0
     have H1:=Lib.hid hL
     clear hsn hS0 hcell hL
     go_wp2
     go_round
     case rel=>exact⟨k+1,by omega,by go_num,by rw[HS.out,Int.natCast_add]⟩
     case measure=>simp [intOf];omega
   obtain rfl:k=ls.length:=by omega
   rw[List.take_length] at hst ⊢
   clear hS0
   go_wp2_with fail
   refine(wz (lD ls) w hs).mono ?_
   rintro e w1 ⟨u,rfl,hown,hb⟩
   go_wp2
   go_loopw [6,24] (fun u i wr => ∃ k:Nat,k≤ls.length∧i=.int .i64 k∧wr.ownsRow w.heap.size 5 1 u (lD (ls.take k)) ((ls.take k).flatten.map (Value.int .u8))∧Below w.heap.size w wr) (fun _ i _=>ls.length - (intOf i).toNat)
   case atStart=>exact⟨0,Nat.zero_le _,rfl,by simpa [lD] using hown,hb⟩
   case round =>
     obtain⟨k,hk,rfl,hown,hbel⟩:=hrel
     have hst:=nu ls k
     by_cases hlt:k<ls.length
     · obtain h0|⟨b,off,rfl,hblk,hcell⟩:=H.out
       · omega
       obtain⟨u,hc0,hu⟩:=hcell k hlt
       have hc:wr.cell? ⟨b,off+k,none⟩=some u:=by rw[hbel.cell hblk];exact hc0
       have hu2:IsNums .u8 wr u (ls.getD k []):=hu.below hbel (Nat.le_refl _)
       have HS:=Lib.hid (pM ls k hlt)
       have HF:=Lib.hid (oX ls k hlt)
       have hst2:=nu ls (k+1)
       rw[HS.out] at hst2
       have hsz:=hbel.size
       have HU:=Lib.hid hu2
       obtain⟨S0,hS0⟩:∃ S,lD (ls.take k)=S:=⟨_,rfl⟩
       rw[hS0] at hst hst2 hown
       have H0:=Lib.hid hS0
       obtain⟨L,hL⟩:∃ L,(ls.getD k []).length=L:=⟨_,rfl⟩
       rw[hL] at hst2
       have H1:=Lib.hid hL
       clear hcell hc0 hu hu2 hS0 hL
       go_wp2_with (at_builtin;refine rO rfl _ _ 22 rfl w.heap.size 5 .u8 1 Tryz.underlying22 pB (by omega) _ _ _ rfl hown _ _ rfl HU.out (by rw[H1.out];omega) hsz ?_;intro v' w' hown' hb')
       go_roundw
       case rel=>exact⟨k+1,by omega,by go_num,by rw[HS.out,HF.out,H0.out,List.map_append];exact hown',hbel.trans hb'⟩
       case measure=>simp [intOf];omega
     obtain rfl:k=ls.length:=by omega
     rw[List.take_length] at hown
     go_wp2
     go_ret
     exact⟨_,rfl,hown,hbel⟩
end
section
def NumsLt(N:Nat)(k:IntKind)(w:World)(v:Value)(zs:List Int):Prop:=
 ∃ a c,v=.slice a zs.length c∧zs.length≤c∧c≤9223372036854775807∧(zs.length=0∨∃ b off,a=some ⟨b,off,none⟩∧b<N∧∀ j,j<zs.length→w.cell? ⟨b,off+j,none⟩=some (.int k (zs.getD j 0)))
theorem NumsLt.below{N:Nat}{k:IntKind}{w w':World}{v:Value}{zs:List Int}(h:NumsLt N k w v zs)(hb:Below N w w'):NumsLt N k w' v zs:=by
 obtain⟨a,c,rfl,hc1,hc2,h|⟨b,off,rfl,h1,h2⟩⟩:=h
 · exact⟨a,c,rfl,hc1,hc2,.inl h⟩
 refine⟨_,c,rfl,hc1,hc2,.inr ⟨b,off,rfl,h1,fun j hj =>?_⟩⟩
 rw[hb.cell (by show b<N;omega)]
 exact h2 j hj
theorem NumsLt.nums{N:Nat}{k:IntKind}{w:World}{v:Value}{zs:List Int}(h:NumsLt N k w v zs)(hN:N≤w.heap.size):IsNums k w v zs:=by
 obtain⟨a,c,rfl,hc1,hc2,h|⟨b,off,rfl,h1,h2⟩⟩:=h
 · exact⟨a,c,rfl,.inl h⟩
 exact⟨_,c,rfl,.inr ⟨b,off,rfl,by omega,h2⟩⟩
inductive Dec where
 | ok (n:Nat) (k:Nat)
 | err (e:Int)
def dec:Nat→Nat→List Int→Dec
 | _,_,[]=>.err 21
 | acc,i,b :: r=>if (i=9∧1<b)∨(0<i∧b=0) then .err 20 else
     if b<128 then .ok (acc+(b % 128).toNat*2 ^ (7*i)) (i+1) else dec (acc+(b % 128).toNat*2 ^ (7*i)) (i+1) r
theorem oE(b:Int)(h0:0≤b)(h1:b≤255):bits .andNot .u8 b 128=b % 128:=by
 have h:∀ z:Fin 256,bits .andNot .u8 ((z.val:Nat):Int) 128=((z.val:Nat):Int) % 128:=by decide +kernel
 have:=h ⟨b.toNat,by omega⟩
 simp only at this
 rw[show((b.toNat:Nat):Int)=b by omega] at this
 exact this
theorem pf(acc k:Nat)(x:Int)(hacc:acc<2 ^ (7*k))(hk:k≤9)(x0:0≤x)(hx:x≤255)(h9:k=9→x≤1) :
   bits .or .u64 (acc:Int) (IntKind.u64.wrap (x % 128*2 ^ (7*k)))=((acc+(x % 128).toNat*2 ^ (7*k):Nat):Int):=by
 obtain⟨y,hy⟩:∃ y:Nat,x % 128=y:=⟨(x % 128).toNat,by omega⟩
 have hy1:y<128:=by omega
 have hy9:k=9→y≤1:=fun h=>by have:=h9 h;omega
 rw[hy]
 have hb:y*2 ^ (7*k)<2 ^ 64:=by
   by_cases e:k=9
   · subst e
     have:=hy9 rfl
     have:y*2 ^ (7*9)≤1*2 ^ (7*9):=Nat.mul_le_mul_right _ this
     exact Nat.lt_of_le_of_lt this (by decide)
   have h1:2 ^ (7*k)≤2 ^ 56:=Nat.pow_le_pow_right (by decide) (by omega)
   have h2:y*2 ^ (7*k)≤127*2 ^ 56:=Nat.mul_le_mul (by omega) h1
   exact Nat.lt_of_le_of_lt h2 (by decide)
 have ha:acc<2 ^ 64:=Nat.lt_of_lt_of_le hacc (Nat.pow_le_pow_right (by decide) (by omega))
 have hcast:((y:Int)*2 ^ (7*k))=((y*2 ^ (7*k):Nat):Int):=by simp
 have hw:∀ n:Int,0≤n→n<2 ^ 64→IntKind.u64.wrap n=n:=fun n h0 h1=>by rw[IntKind.wrap_u64];omega
 rw[hcast,hw _ (by omega) (by have:((y*2 ^ (7*k):Nat):Int)<((2 ^ 64:Nat):Int):=Int.ofNat_lt.2 hb;simpa using this)]
 have h:=(bits_nat .u64 64 (by decide) hw acc (y*2 ^ (7*k)) ha hb).2
 rw[h]
 have h2:2 ^ (7*k)*y+acc=2 ^ (7*k)*y ||| acc:=Nat.two_pow_add_eq_or_of_lt hacc y
 rw[Nat.or_comm,Nat.mul_comm y,← h2,Int.toNat_natCast,Nat.mul_comm,Nat.add_comm]
theorem oF(acc k:Nat)(x:Int)(hacc:acc<2 ^ (7*k)):acc+(x % 128).toNat*2 ^ (7*k)<2 ^ (7*(k+1)):=by
 have h1:(x % 128).toNat≤127:=by omega
 have h2:(x % 128).toNat*2 ^ (7*k)≤127*2 ^ (7*k):=Nat.mul_le_mul_right _ h1
 rw[show 7*(k+1)=7*k+7 by omega,Nat.pow_add]
 omega
def IsReader(w:World)(B:Nat)(v:Value)(bs:List Int)(e:Int):Prop:=
 w.cell? ⟨B,0,none⟩=some v∧w.cell? ⟨B,1,none⟩=some (.int .i64 e)∧w.frozen? ⟨B,0,none⟩=false∧w.frozen? ⟨B,1,none⟩=false∧NumsLt B .u8 w v bs∧∀ x∈bs,0≤x∧x≤255
theorem rp{w:World}{B b off c k c':Nat}{bs:List Int}{e:Int}{v:Value}{a':Option Addr}(h0:w.cell? ⟨B,0,none⟩=some v)(h1:w.cell? ⟨B,1,none⟩=some (.int .i64 e))(h2:w.frozen? ⟨B,0,none⟩=false)(h3:w.frozen? ⟨B,1,none⟩=false)
   (hblk:b<B) (hcell:∀ j,j<bs.length→w.cell? ⟨b,off+j,none⟩=some (.int .u8 (bs.getD j 0))) (hbs:∀ x∈bs,0≤x∧x≤255) (hk:k≤bs.length) (hc1:bs.length - k≤c') (hc2:c'≤9223372036854775807) (ha:bs.length - k=0∨a'=some ⟨b,off+k,none⟩) :
   IsReader (w.setCell ⟨B,0,none⟩ (.slice a' (bs.length - k) c')) B (.slice a' (bs.length - k) c') (bs.drop k) e:=by
 refine⟨World.cell?_setCell_same _ _ _ h0,?_,by rw[World.frozen?_setCell];exact h2,by rw[World.frozen?_setCell];exact h3,?_,fun x hx=>hbs x (List.mem_of_mem_drop hx)⟩
 · rw[World.cell?_setCell_other _ _ _ _ (by simp)];exact h1
 have hl:(bs.drop k).length=bs.length - k:=by simp
 refine NumsLt.below (w:=w) ⟨a',c',by rw[hl],by omega,hc2,?_⟩ ((Below.refl B w).setCell (p:=⟨B,0,none⟩) (Nat.le_refl _) _)
 rcases ha with ha|ha
 · left;omega
 right
 refine⟨b,off+k,ha,hblk,fun j hj =>?_⟩
 have:=hcell (k+j) (by omega)
 rw[show off+k+j=off+(k+j) by omega,this]
 simp [List.getD]
def Az(w:World)(B:Nat)(bs:List Int)(e:Int):Dec→Ending→World→Prop
 | .ok n k,en,w'=>en=.returned (.tuple #[.int .u64 n,.int .i64 0])∧∃ v',w'=w.setCell ⟨B,0,none⟩ v'∧IsReader w' B v' (bs.drop k) e
 | .err er,en,w'=>en=.returned (.tuple #[.int .u64 0,.int .i64 er])∧w'=w
end
section
def Only(B:Nat)(w w':World):Prop:=w.grownBy w' (some B)
theorem Only.refl(B:Nat)(w:World):Only B w w:=⟨rfl,rfl,rfl,Nat.le_refl _,fun _ _ _=>rfl⟩
theorem Only.trans{B:Nat}{a b c:World}(h:Only B a b)(k:Only B b c):Only B a c:=
 ⟨k.os.trans h.os,k.tape.trans h.tape,k.output.trans h.output,Nat.le_trans h.size k.size,fun i hi hne=>(k.block i (Nat.lt_of_lt_of_le hi h.size) hne).trans (h.block i hi hne)⟩
theorem Only.set(B:Nat)(w:World)(o:Nat)(v:Value):Only B w (w.setCell ⟨B,o,none⟩ v):=
 ⟨rfl,rfl,rfl,by simp [World.setCell],fun k _ hne=>Below.heap_setCell _ _ _ _ (fun e=>hne (by rw[e]))⟩
theorem Only.ofBelow{B:Nat}{w w':World}(h:Below w.heap.size w w'):Only B w w':=⟨h.os,h.tape,h.output,h.size,fun k hk _=>h.block k hk⟩
theorem Only.below{B N:Nat}{w w':World}(h:Only B w w')(hB:N≤B)(hN:N≤w.heap.size):Below N w w':=
 ⟨h.os,h.tape,h.output,h.size,fun k hk=>h.block k (by omega) (fun e=>by cases e;omega)⟩
theorem Only.drew(B:Nat)(w:World):Only B w w.drew:=⟨rfl,rfl,rfl,Nat.le_refl _,fun _ _ _=>rfl⟩
theorem IsReader.lt{w:World}{B:Nat}{v:Value}{bs:List Int}{e:Int}(h:IsReader w B v bs e):B<w.heap.size:=World.block_lt_of_cell? w ⟨B,0,none⟩ h.1
theorem IsReader.kept{w w':World}{B B2:Nat}{v:Value}{bs:List Int}{e:Int}(h:IsReader w B v bs e)(ho:Only B2 w w')(hB:B<B2):IsReader w' B v bs e:=by
 have hlt:=h.lt
 obtain⟨h0,h1,h2,h3,h4,h5⟩:=h
 have hb:w'.heap[B]? = w.heap[B]?:=ho.block B hlt (fun e=>by cases e;omega)
 exact⟨by rw[World.cell?_of_block (w:=w) hb];exact h0,by rw[World.cell?_of_block (w:=w) hb];exact h1,by rw[World.frozen?_of_block (w:=w) hb];exact h2,by rw[World.frozen?_of_block (w:=w) hb];exact h3,h4.below (ho.below (by omega) (by omega)),h5⟩
theorem IsReader.later{w w':World}{B:Nat}{v:Value}{bs:List Int}{e:Int}(h:IsReader w B v bs e)(hb:Below w.heap.size w w'):IsReader w' B v bs e:=by
 have hlt:=h.lt
 obtain⟨h0,h1,h2,h3,h4,h5⟩:=h
 exact⟨by rw[hb.cell (by exact hlt)];exact h0,by rw[hb.cell (by exact hlt)];exact h1,by rw[hb.frozen (by exact hlt)];exact h2,by rw[hb.frozen (by exact hlt)];exact h3,h4.below (hb.mono (by omega)),h5⟩
theorem uZ:∀ (bs:List Int) (acc i:Nat) (er:Int),dec acc i bs=.err er→er=20∨er=21
 | [],acc,i,er,h=>by rw[dec] at h;cases h;exact .inr rfl
 | b :: r,acc,i,er,h=>by
   rw[dec] at h
   split at h
   · cases h;exact .inl rfl
   split at h
   · cases h
   exact uZ r _ _ er h
def lQ(bs:List Int)(e most:Int):Int×List Int×Int:=
 if e=0 then match dec 0 0 bs with
   | .err er=>(0,[],er)
   | .ok n k=>if most<n then (0,[],22) else (n,bs.drop k,0)
 else (0,bs,e)
end
section
def AY(bs:List Int)(e most:Int):List Int×List Int×Int:=
 if (lQ bs e (max most 0)).2.2=0 then
   if ((lQ bs e (max most 0)).2.1.length:Int)<(lQ bs e (max most 0)).1 then ([],[],21)
   else ((lQ bs e (max most 0)).2.1.take (lQ bs e (max most 0)).1.toNat,(lQ bs e (max most 0)).2.1.drop (lQ bs e (max most 0)).1.toNat,0)
 else ([],(lQ bs e (max most 0)).2.1,(lQ bs e (max most 0)).2.2)
theorem IsLists.lit(w:World)(us:List Value)(ls:List (List Int))(N:Nat)(T:TypeId)(n c:Nat)(hN:N=w.heap.size)(hn:n=us.length)(hl:us.length=ls.length)(h:∀ j,j<us.length→IsNums .u8 w (us.getD j default) (ls.getD j [])) :
   IsLists (w.alloc (.cells us.toArray T)) (.slice (some ⟨N,0,none⟩) n c) ls:=by
 subst hN;subst hn
 refine⟨_,c,by rw[hl],.inr ⟨_,0,rfl,by simp,fun j hj =>?_⟩⟩
 refine⟨us.getD j default,?_,(h j (by omega)).alloc _⟩
 unfold World.cell? World.alloc
 simp [List.getD,show j<us.length by omega]
theorem IsLists.one(w:World)(u:Value)(bs:List Int)(N:Nat)(T:TypeId)(hN:N=w.heap.size)(h:IsNums .u8 w u bs):IsLists (w.alloc (.cells #[u] T)) (.slice (some ⟨N,0,none⟩) 1 1) [bs]:=
 IsLists.lit w [u] [bs] N T 1 1 hN rfl rfl (fun j hj=>by
   rcases j with _|j
   · exact h
   simp at hj)
theorem NumsLt.ofOwn{k:IntKind}{w:World}{B:Nat}{e:TypeId}{v:Value}{n:Nat}{zs:List Int}(h:w.ownsRow B e 1 v n (zs.map (Value.int k))):NumsLt w.heap.size k w v zs:=by
 have hn:n=zs.length:=by have:=h.1;simpa using this.symm
 subst hn
 rcases h.2 with ⟨rfl,h0⟩|⟨g,cap,cur,rfl,hg,hb,h1,h2,h3,h4⟩
 · obtain rfl:=List.length_eq_zero_iff.1 h0
   exact⟨none,0,rfl,Nat.le_refl _,by omega,.inl rfl⟩
 refine⟨_,cap,rfl,h1,h2,.inr ⟨g,0,rfl,(Array.getElem?_eq_some_iff.1 hb).1,fun j hj =>?_⟩⟩
 have:=h.cellAt j (by omega)
 rw[Nat.zero_add,this]
 simp [hj,List.getD]
theorem NumsLt.take{N:Nat}{k:IntKind}{w:World}{a:Option Addr}{len c:Nat}{zs:List Int}(h:NumsLt N k w (.slice a len c) zs)(n:Nat)(hn:n≤zs.length):NumsLt N k w (.slice a n c) (zs.take n):=by
 obtain⟨a',c',e,h1,h2,h3⟩:=h
 injection e with e1 e2 e3
 subst e1;subst e3
 refine⟨a,c,by simp [hn],by simp;omega,h2,?_⟩
 rcases h3 with h3|⟨b,off,rfl,hb,hc⟩
 · left;simp;omega
 right
 refine⟨b,off,rfl,hb,fun j hj =>?_⟩
 simp at hj
 rw[hc j (by omega)]
 simp only [List.getD,List.getElem?_take]
 rw[if_pos (by omega)]
theorem IsReader.set{w:World}{B:Nat}{a:Option Addr}{len c n:Nat}{bs:List Int}{e:Int}(h:IsReader w B (.slice a len c) bs e)(hn:n≤bs.length)(a':Option Addr)(c':Nat)(hc1:bs.length - n≤c')(hc2:c'≤9223372036854775807)
   (ha:∀ b off,a=some ⟨b,off,none⟩→bs.length - n=0∨a'=some ⟨b,off+n,none⟩):IsReader (w.setCell ⟨B,0,none⟩ (.slice a' (bs.length - n) c')) B (.slice a' (bs.length - n) c') (bs.drop n) e:=by
 obtain⟨h0,h1,h2,h3,⟨p,c0,ep,hc3,hc4,hcells⟩,h5⟩:=h
 injection ep with e1 e2 e3
 subst e1;subst e3
 rcases hcells with hz|⟨b,off,rfl,hblk,hcell⟩
 · have hn0:bs=[]:=List.length_eq_zero_iff.1 hz
   subst hn0
   refine⟨World.cell?_setCell_same _ _ _ h0,?_,by rw[World.frozen?_setCell];exact h2,by rw[World.frozen?_setCell];exact h3,⟨a',c',by simp,by simp,hc2,.inl (by simp)⟩,by simp⟩
   rw[World.cell?_setCell_other _ _ _ _ (by simp)];exact h1
 exact rp (c:=c) h0 h1 h2 h3 hblk hcell h5 hn hc1 hc2 (ha b off rfl)
def Ad(w:World)(B:Nat)(r:List Int×List Int×Int)(en:Ending)(w':World):Prop:=
 ∃ u,en=.returned u∧w'.ownsRow w.heap.size 5 1 u r.1.length (r.1.map (Value.int .u8))∧∃ v',IsReader w' B v' r.2.1 r.2.2∧Only B w w'
end
section
def Low(N:Nat)(w0:World):World→Prop:=fun W=>Below N w0 W
section
variable {P:Program} {ops:Array Oper} {Q:Exit→Act→World→Prop} {md:Region.Mode} {w0:World} {N:Nat}
end
end
section
theorem u1(rest:List Int):∀ (f n i acc:Nat),i+f=9→n*2 ^ (7*i)<2 ^ 64→(0<i→n≠0)→dec acc i (pL f n++rest)=.ok (acc+n*2 ^ (7*i)) (i+(pL f n).length)
 | 0,n,i,acc,hi,hb,hz=>by
   obtain rfl:i=9:=by omega
   have hn:n≤1:=by omega
   have h0:=hz (by omega)
   obtain rfl:n=1:=by omega
   simp [pL,dec]
 | f+1,n,i,acc,hi,hb,hz=>by
   unfold pL
   by_cases h:n<128
   · rw[if_pos h]
     have hc:¬ ((i=9∧(1:Int)<(n:Int))∨(0<i∧(n:Int)=0)):=by omega
     simp only [List.cons_append,List.nil_append,dec]
     rw[if_neg hc,if_pos (by omega)]
     rw[show((n:Int) % 128).toNat=n by omega]
     simp
   rw[if_neg h]
   have hc:¬ ((i=9∧(1:Int)<((n % 128+128:Nat):Int))∨(0<i∧((n % 128+128:Nat):Int)=0)):=by omega
   simp only [List.cons_append,dec]
   rw[if_neg hc,if_neg (by omega)]
   have hpow:(2:Nat) ^ (7*(i+1))=128*2 ^ (7*i):=by rw[show 7*(i+1)=7+7*i by omega,Nat.pow_add]
   have hdm:128*(n / 128)+n % 128=n:=Nat.div_add_mod n 128
   have hmul:n / 128*2 ^ (7*(i+1))=128*(n / 128)*2 ^ (7*i):=by rw[hpow];ac_rfl
   have hle:128*(n / 128)*2 ^ (7*i)≤n*2 ^ (7*i):=Nat.mul_le_mul_right _ (by omega)
   rw[u1 rest f (n / 128) (i+1) _ (by omega) (by omega) (by omega)]
   rw[show(((n % 128+128:Nat):Int) % 128).toNat=n % 128 by omega,hmul]
   have hsum:n*2 ^ (7*i)=128*(n / 128)*2 ^ (7*i)+n % 128*2 ^ (7*i):=by rw[← Nat.add_mul,hdm]
   rw[hsum]
   simp
   constructor <;> omega
theorem yK(x:Int)(h0:0≤x)(h1:x≤18446744073709551615)(rest:List Int):dec 0 0 (enc x++rest)=.ok x.toNat (enc x).length:=by
 have:=u1 rest 9 x.toNat 0 0 (by omega) (by simp;omega) (by omega)
 simpa [enc] using this
theorem rq(x:Int)(h1:x≤18446744073709551615):∀ b∈enc x,0≤b∧b≤255:=by
 have:∀ (f n:Nat),n<128 ^ (f+1)→∀ b∈pL f n,0≤b∧b≤255:=by
   intro f
   induction f with
   | zero=>intro n hn b hb;simp [pL] at hb hn;omega
   | succ f ih =>
     intro n hn b hb
     unfold pL at hb
     split at hb
     · simp at hb;omega
     rcases List.mem_cons.1 hb with rfl|hb
     · omega
     refine ih (n / 128) ?_ b hb
     rw[Nat.pow_succ] at hn
     exact Nat.div_lt_of_lt_mul (by rw[Nat.mul_comm];exact hn)
 refine this 9 x.toNat ?_
 have:(128:Nat) ^ 10=1180591620717411303424:=by decide
 omega
theorem lO(x:Int)(h0:0≤x)(h1:x≤18446744073709551615)(rest:List Int)(most:Int)(hm:x≤most):lQ (enc x++rest) 0 most=(x,rest,0):=by
 unfold lQ
 rw[if_pos rfl,yK x h0 h1 rest]
 simp only []
 rw[if_neg (by omega)]
 simp;omega
theorem wB(bs:List Int)(e most:Int)(h:e≠0):lQ bs e most=(0,bs,e):=by rw[lQ,if_neg h]
theorem IsNums.drew{k:IntKind}{w:World}{v:Value}{zs:List Int}(h:IsNums k w v zs):IsNums k w.drew v zs:=h.below (Below.refl w.heap.size w).drew (Nat.le_refl _)
theorem IsLists.nil(w:World)(a:Option Addr)(c:Nat):IsLists w (.slice a 0 c) []:=⟨a,c,rfl,.inl rfl⟩
theorem IsNums.after{k:IntKind}{w w':World}{v:Value}{zs:List Int}{o:Obj}(h:IsNums k w v zs)(hb:Below (w.alloc o).heap.size (w.alloc o) w'):IsNums k w' v zs:=(h.alloc o).below hb (Nat.le_refl _)
theorem yL{a b:List Int}(ha:∀ x∈a,0≤x∧x≤255)(hb:∀ x∈b,0≤x∧x≤255):((strOfNums a).toList == (strOfNums b).toList)=decide (a=b):=by
 rw[Bool.eq_iff_iff]
 simp only [beq_iff_eq,decide_eq_true_eq]
 constructor
 · intro h
   refine x9 ha hb (bytes_inj ?_)
   rw[← ByteArray.toList_eq,← ByteArray.toList_eq]
   exact h
 rintro rfl;rfl
set_option maxRecDepth 100000 in
theorem uK(w:World)(u v:Value)(xs ys:List Int)(hu:IsNums .u8 w u xs)(hv:IsNums .u8 w v ys)(hx:∀ x∈xs,0≤x∧x≤255)(hy:∀ x∈ys,0≤x∧x≤255) :
   Calls Tryz.prog 62 #[u,v] w fun e w'=>e=.returned (.bool (decide (xs=ys)))∧w'=w:=by
 obtain⟨p1,c1,rfl,-⟩:=id hu
 obtain⟨p2,c2,rfl,-⟩:=id hv
 have h1:=qo (P:=Tryz.prog) hu 22 5 Tryz.underlying22 Tryz.underlying5 9 Tryz.underlying9
 have h2:=qo (P:=Tryz.prog) hv 22 5 Tryz.underlying22 Tryz.underlying5 9 Tryz.underlying9
 have HD:=Lib.hid (yL hx hy)
 clear hu hv hx hy
 go_enter Tryz.func62,Tryz.ntmps62
 go_wp2
 go_ret
 exact⟨wy HD.out,rfl⟩
end
section
section
variable {P:Program} {a:Act} {w:World} {K:Act→World→Prop} {Q:Exit→Act→World→Prop}
end
theorem NumsOff.ofOwn{bad:Nat→Prop}{w:World}{base:Nat}{e:TypeId}{v:Value}{n:Nat}{zs:List Int}(h:w.ownsRow base e 1 v n (zs.map (Value.int .u8)))(hb:∀ k,base≤k→k<w.heap.size→¬ bad k):NumsOff bad w v zs:=by
 have hn:n=zs.length:=by have:=h.1;simpa using this.symm
 subst hn
 rcases h.2 with ⟨rfl,h0⟩|⟨g,cap,cur,rfl,hg,hbk,h1,h2,h3,h4⟩
 · obtain rfl:=List.length_eq_zero_iff.1 h0;exact NumsOff.nil _ _ none 0
 have hlt:=(Array.getElem?_eq_some_iff.1 hbk).1
 refine⟨_,cap,rfl,.inr ⟨g,0,rfl,hlt,hb g hg hlt,fun j hj =>?_⟩⟩
 have:=h.cellAt j (by omega)
 rw[Nat.zero_add,this]
 simp [hj,List.getD]
end
section
section
variable {P:Program} {ops:Array Oper} {rest:List Oper} {a:Act} {w:World} {Q:Exit→Act→World→Prop}
end
theorem Only.keep{B:Nat}{a b:World}(h:Only B a b):Keep (fun k=>k=B) a b:=⟨h.os,h.tape,h.output,h.size,fun i hi hn=>h.block i hi (fun e=>hn (show i=B from(by injection e)))⟩
theorem yI(bs:List Int)(e most:Int)(m0:0≤most):0≤(lQ bs e most).1∧(lQ bs e most).1≤most:=by
 unfold lQ
 split
 · cases dec 0 0 bs with
   | err er=>exact⟨Int.le_refl _,m0⟩
   | ok n k =>
     show 0≤(if most<(n:Int) then ((0:Int),([]:List Int),(22:Int)) else ((n:Int),bs.drop k,0)).1∧(if most<(n:Int) then ((0:Int),([]:List Int),(22:Int)) else ((n:Int),bs.drop k,0)).1≤most
     split
     · exact⟨Int.le_refl _,m0⟩
     show 0≤(n:Int)∧(n:Int)≤most
     omega
 exact⟨Int.le_refl _,m0⟩
theorem ww(bs:List Int)(e most:Int):(lQ bs e most).2.1.length≤bs.length:=by
 unfold lQ
 split
 · cases dec 0 0 bs with
   | err er=>exact Nat.zero_le _
   | ok n k =>
     show(if most<(n:Int) then ((0:Int),([]:List Int),(22:Int)) else ((n:Int),bs.drop k,0)).2.1.length≤_
     split
     · exact Nat.zero_le _
     show(bs.drop k).length≤_
     rw[List.length_drop];omega
 exact Nat.le_refl _
theorem wx(bs:List Int)(e most:Int):∀ x∈(lQ bs e most).2.1,x∈bs:=by
 unfold lQ
 split
 · cases dec 0 0 bs with
   | err er=>intro x hx;cases hx
   | ok n k =>
     show ∀ x∈(if most<(n:Int) then ((0:Int),([]:List Int),(22:Int)) else ((n:Int),bs.drop k,0)).2.1,_
     split
     · intro x hx;cases hx
     intro x hx;exact List.mem_of_mem_drop hx
 intro x hx;exact hx
end
section
theorem wv{bs:List Int}{er:Int}(most:Int)(h:dec 0 0 bs=.err er):lQ bs 0 most=(0,[],er):=by rw[lQ,if_pos rfl,h]
theorem s4{bs:List Int}{n k:Nat}(most:Int)(h:dec 0 0 bs=.ok n k):lQ bs 0 most=if most<(n:Int) then (0,[],22) else ((n:Int),bs.drop k,0):=by rw[lQ,if_pos rfl,h]
end
section
theorem zN(u:Nat):IntKind.u8.wrap ((BitVec.ofInt IntKind.u8.bits (IntKind.u8.wrap (u:Int)) ||| BitVec.ofInt IntKind.u8.bits 128).toNat)=((u % 128+128:Nat):Int):=by
 have h:=zK u
 have e:IntKind.u8.wrap (u:Int)=(u:Int) % 256:=by simp [IntKind.wrap,IntKind.signed,IntKind.bits]
 rw[e];exact h
theorem u4{j u:Nat}(hj:j≤9)(hu:(u:Int)<2 ^ (64 - 7*j))(h:128≤u):j+1≤9∧((u / 128:Nat):Int)<2 ^ (64 - 7*(j+1)):=by
 have hc:j=0∨j=1∨j=2∨j=3∨j=4∨j=5∨j=6∨j=7∨j=8∨j=9:=by omega
 rcases hc with rfl|rfl|rfl|rfl|rfl|rfl|rfl|rfl|rfl|rfl <;> simp at hu ⊢ <;> omega
theorem wI{j u:Nat}(hj:j≤8)(h:128≤u):pL (9 - j) u=((u % 128+128:Nat):Int) :: pL (9 - (j+1)) (u / 128):=by
 obtain⟨f,hf⟩:∃ f,9 - j=f+1:=⟨8 - j,by omega⟩
 rw[hf,show 9 - (j+1)=f by omega,pL,if_neg (by omega)]
theorem yP{j u:Nat}(hj:j≤9)(h:u<128):pL (9 - j) u=[(u:Int)]:=by
 cases hf:9 - j with
 | zero=>rfl
 | succ f=>rw[pL,if_pos h]
theorem l8(x:Int):ll [x]=enc x:=by simp [ll]
theorem rh(x:Int)(l:List Int):ll (x :: l)=enc x++ll l:=by simp [ll]
theorem zO{x:Int}(h:0≤x∧x≤9223372036854775807):∀ k,k < [x].length→0≤[x].getD k 0∧[x].getD k 0<2 ^ 64:=fun k hk=>by
 obtain rfl:k=0:=by simpa using hk
 simp;omega
theorem tw{x:Int}(h:0≤x∧x≤9223372036854775807):∀ k,k < [x].length→0≤[x].getD k 0∧[x].getD k 0≤9223372036854775807:=fun k hk=>by
 obtain rfl:k=0:=by simpa using hk
 simpa using h
def rP(e:Int×List Int):List Int:=enc e.1++(enc e.2.length++e.2)
def mq(es:List (Int×List Int)):List Int:=es.flatMap rP
theorem sr{es:List (Int×List Int)}{k:Nat}{e:Int×List Int}(h:es[k]? = some e):mq (es.take (k+1))=mq (es.take k)++rP e:=by
 rw[ln h];simp [mq]
theorem qe(es:List (Int×List Int))(h:∀ e∈es,e.2.length≤1000):(mq es).length≤1020*es.length:=by
 induction es with
 | nil=>simp [mq]
 | cons e es ih =>
   have h1:=ih (fun x hx=>h x (List.mem_cons_of_mem _ hx))
   have h2:=h e List.mem_cons_self
   have h3:=(lv e.1).1
   have h4:=(lv e.2.length).1
   simp only [mq,List.flatMap_cons,List.length_append,List.length_cons,rP] at h1 ⊢
   omega
theorem xB(xs:List Int)(q:Option Addr)(cq:Nat)(w0:World)(h0:Rd (fun _=>True) w0 (.slice q xs.length cq) (.ns .u64 xs))(hl:xs.length≤1000000)(hxb:∀ k,k<xs.length→0≤xs.getD k 0∧xs.getD k 0<2 ^ 64) :
   Calls Tryz.prog 88 #[.slice q xs.length cq] w0 fun e w' => ∃ (p:Option Addr) (c:Nat),e=.returned (.slice p (ll xs).length c)∧w'.ownsRow w0.heap.size 5 1 (.slice p (ll xs).length c) (ll xs).length ((ll xs).map (Value.int .u8))∧Below w0.heap.size w0 w':=by
 refine mp Tryz.func88 rfl Tryz.ntmps88 fun Y U =>?_
 have m0:=MemOk.start (fun _=>False) w0
 refine la U (.assign rfl .nil) fun Y U =>?_
 refine la U (.assign rfl .nil) fun Y U =>?_
 refine wsk fun K0 hK0 =>?_
 refine la U (.assign rfl .nil) fun Y U =>?_
 refine wp_block ?_
 refine wp_loop_ghost (fun g a w => ∃ (k:Nat) (b:List Int) (p:Option Addr) (c:Nat),k≤xs.length∧g=xs.length - k∧b=ll (xs.take k)∧Has 32 [(0,.slice q xs.length cq),(3,.slice p b.length c),(4,.int .i64 k)] a∧MemOk (cn w0) w0 [(9,.num (.slice p b.length c) 5 .u8 b)] w) (xs.length) ?_ ?_
 · have mz:=m0.nilN 9 5 .u8
   exact⟨0,[],_,_,Nat.zero_le _,rfl,rfl,U.only [0,3,4],mz.only [9]⟩
 clear U m0
 rintro g Y w4 ⟨k,b,p,c,hkl,hg,hbe,U,m4⟩
 refine wsk fun K1 hK1 =>?_
 refine la U (.move rfl<|.move rfl<|.len rfl tZ<|.lss rfl rfl .nil) fun Y U =>?_
 refine bc U 9 ?_ ?_
 ·
  intro hb9 U;try simp only [QQ,Qax] at hb9
  have hk:k<xs.length:=by omega
  have hxk:=hxb k hk
  refine wct U ?_
  refine zss (hK1 _ _ ?_)
  refine wsk fun K2 hK2 =>?_
  refine wp_block ?_
  refine zsr fun K3 hK3 =>?_
  refine k9 U (.move rfl<|.move rfl .nil) fun Y U =>?_
  obtain⟨ac,ad,ae,aj,ab⟩:=h0.extN (k) hk
  revert U
  cases ae
  intro U
  refine gz hK3 U (.c rfl (fun _ h_=>li h_ rfl rfl tZ zn (k) rfl hk)<|.loadAt1 (ab m4 rfl) (q:=0) rfl rfl rfl nb rfl<|.assign rfl<|.nil) fun Y U =>?_
  refine wsk fun K4 hK4 =>?_
  refine wp_block ?_
  refine wp_loop_ghost (fun g a w => ∃ (j u:Nat) (b:List Int) (p:Option Addr) (c:Nat),j≤9∧(u:Int)<2 ^ (64 - 7*j)∧g=u∧b.length≤10*k+j∧b++pL (9 - j) u=ll (xs.take k)++enc (xs.getD k 0)∧Has 32 [(0,.slice (some ⟨ac,ad,none⟩) xs.length cq),(3,.slice p b.length c),(4,.int .i64 k),(5,.int .u64 (u:Int))] a∧MemOk (cn w0) w0 [(9,.num (.slice p b.length c) 5 .u8 b)] w) ((xs.getD k 0).toNat) ?_ ?_
  · obtain⟨u0,hu0⟩:∃ u:Nat,xs.getD k 0=u:=⟨(xs.getD k 0).toNat,by omega⟩
    rw[hu0] at U
    exact⟨0,u0,b,_,_,by omega,by have:=hxk.2;rw[hu0] at this;simpa using this,by rw[hu0];rfl,by rw[hbe];have:=k8 (xs.take k);rw[List.length_take] at this;omega,by rw[hbe,hu0];rfl,U.only [0,3,4,5],m4.only [9]⟩
  clear U m4
  rintro g Y ao ⟨j,u,b,p,c,hj9,hu1,hg2,hbl2,hbe2,U,ag⟩
  refine wsk fun K5 hK5 =>?_
  refine la U (.move rfl<|.geq rfl rfl .nil) fun Y U =>?_
  refine bc U 17 ?_ ?_
  ·
   intro aa U;try simp only [QQ,Qax] at aa
   have hub:128≤u:=by omega
   have hz:IntKind.u8.wrap ((BitVec.ofInt IntKind.u8.bits (IntKind.u8.wrap (u:Int)) ||| BitVec.ofInt IntKind.u8.bits 128).toNat)=((u % 128+128:Nat):Int):=zN u
   obtain⟨hj8,hu2⟩:=u4 hj9 hu1 (by omega)
   refine wct U ?_
   refine zss (hK5 _ _ ?_)
   refine wp_block ?_
   refine zsr fun K6 hK6 =>?_
   refine k9 U (.move rfl<|.move rfl<|.conv rfl nb U5 rfl<|.or rfl rfl (r:=((u % 128+128:Nat):Int)) hz .nil) fun Y U =>?_
   refine plz (lj U ag 200 (k:=.u8) rfl rfl U22 lJ rfl rfl rfl rfl fun ap Y aq U ah =>?_)
   refine plz (lE U ah 9 rfl rfl rfl (ah.numsO (i:=200) rfl) U22 lJ (by decide) (by simp;omega) rfl fun ar au Y av U ak =>?_)
   refine gz hK6 U (.assign rfl .nil) fun Y U =>?_
   replace U:=U.oz [0,3,4,5]
   refine wp_region_lit ?_
   refine k9 U (.move rfl<|.shr rfl rfl (by decide) (r:=((u / 128:Nat):Int)) (by rw[show(2:Int) ^ min (7:Int).toNat IntKind.u64.bits=128 from by decide,Int.fdiv_eq_ediv_of_nonneg _ (by decide)];omega)<|.assign rfl .nil) fun Y U =>?_
   refine wpList_nil ?_
   show ∃ n',n'<_∧_
   exact⟨u / 128,by omega,j+1,u / 128,_,_,_,hj8,by omega,rfl,by simp;omega,by rw[← hbe2,wI (by omega) hub,List.append_assoc];try rfl,U.only [0,3,4,5],ak.only [9]⟩
  intro aa U;try simp only [QQ,Qax] at aa
  have hub:u<128:=by omega
  refine wcf U ?_
  refine wp_exit ?_
  refine hK4 _ _ ?_
  refine wp_region_lit ?_
  refine k9 U (.move rfl<|.move rfl<|.conv rfl nb U5 (r:=(u:Int)) (IntWalk.u8_in _ (by omega)) .nil) fun Y U =>?_
  refine plz (lj U ag 200 (k:=.u8) rfl rfl U22 lJ rfl rfl rfl rfl fun aw Y ax U ai =>?_)
  refine plz (lE U ai 9 rfl rfl rfl (ai.numsO (i:=200) rfl) U22 lJ (by decide) (by simp;omega) rfl fun ay az Y aA U al =>?_)
  refine gz hK2 U (.assign rfl .nil) fun Y U =>?_
  replace U:=U.oz [0,3,4,5]
  refine wp_region_lit ?_
  refine k9 U (.move rfl<|.inc (k+1)<|.assign rfl .nil) fun Y U =>?_
  refine wpList_nil ?_
  show ∃ n',n'<_∧_
  exact⟨xs.length - (k+1),by omega,k+1,_,_,_,by omega,rfl,by rw[nP _ _ hk,← hbe2,yP (by omega) hub];try rfl,U.only [0,3,4],al.only [9]⟩
 intro hb9 U;try simp only [QQ,Qax] at hb9
 revert U
 obtain rfl:k=xs.length:=by omega
 intro U
 refine wcf U ?_
 refine wp_exit ?_
 refine hK0 _ _ ?_
 refine la U (.move rfl<|.assign rfl .nil) fun Y U =>?_
 refine rt1 U ?_
 rw[List.take_length] at hbe
 revert U
 subst hbe
 intro U
 exact⟨_,_,rfl,m4.ok 9 _ rfl,m4.below⟩
theorem o6(xs:List Int)(q:Option Addr)(cq:Nat)(w0:World)(h0:Rd (fun _=>True) w0 (.slice q xs.length cq) (.ns .i64 xs))(hl:xs.length≤1000000)(hxb:∀ k,k<xs.length→0≤xs.getD k 0∧xs.getD k 0≤9223372036854775807) :
   Calls Tryz.prog 42 #[.slice q xs.length cq] w0 fun e w' => ∃ (p:Option Addr) (c:Nat),e=.returned (.slice p (ll xs).length c)∧w'.ownsRow w0.heap.size 5 1 (.slice p (ll xs).length c) (ll xs).length ((ll xs).map (Value.int .u8))∧Below w0.heap.size w0 w':=by
 refine mp Tryz.func42 rfl Tryz.ntmps42 fun Y U =>?_
 have m0:=MemOk.start (fun _=>False) w0
 refine la U (.assign rfl .nil) fun Y U =>?_
 refine la U (.assign rfl .nil) fun Y U =>?_
 refine wsk fun K0 hK0 =>?_
 refine la U (.assign rfl .nil) fun Y U =>?_
 refine wp_block ?_
 refine wp_loop_ghost (fun g a w => ∃ (k:Nat) (b:List Int) (p:Option Addr) (c:Nat),k≤xs.length∧g=xs.length - k∧b=ll (xs.take k)∧Has 21 [(0,.slice q xs.length cq),(3,.slice p b.length c),(4,.int .i64 k)] a∧MemOk (cn w0) w0 [(9,.num (.slice p b.length c) 5 .u8 b)] w) (xs.length) ?_ ?_
 · have mz:=m0.nilN 9 5 .u8
   exact⟨0,[],_,_,Nat.zero_le _,rfl,rfl,U.only [0,3,4],mz.only [9]⟩
 clear U m0
 rintro g Y w4 ⟨k,b,p,c,hkl,hg,hbe,U,m4⟩
 refine wsk fun K1 hK1 =>?_
 refine la U (.move rfl<|.move rfl<|.len rfl U32<|.lss rfl rfl .nil) fun Y U =>?_
 refine bc U 8 ?_ ?_
 ·
  intro hb9 U;try simp only [QQ,Qax] at hb9
  have hk:k<xs.length:=by omega
  have hxk:=hxb k hk
  refine wct U ?_
  refine zss (hK1 _ _ ?_)
  refine wsk fun K2 hK2 =>?_
  refine wp_block ?_
  refine wp_region_lit ?_
  refine k9 U (.move rfl<|.move rfl<|.move rfl .nil) fun Y U =>?_
  obtain⟨ae,ag,ab,ah,aa⟩:=h0.extN (k) hk
  revert U
  cases ab
  intro U
  refine k9 U (.c rfl (fun _ h_=>li h_ rfl rfl U32 l3 (k) rfl hk)<|.loadAt1 (aa m4 rfl) (q:=0) rfl rfl rfl U2 rfl<|.conv rfl U2 nb (r:=xs.getD k 0) (IntWalk.u64_in _ (by omega)) .nil) fun Y U =>?_
  refine plz (lj U m4 100 (k:=.u64) rfl rfl tZ qS rfl rfl rfl rfl fun ak Y al U ai =>?_)
  have ac:=ai.freezeN 100 rfl
  refine plz (ecn U Tryz.func88 rfl ac 101 (xB [xs.getD k 0] _ _ _ ((ac.rd (i:=100) rfl).any) (by simp) (zO (by omega))) fun ao ap Y aq U ad =>?_)
  refine plz (lE U ad 9 rfl rfl rfl (ad.numsO (i:=101) rfl) U22 lJ (by decide) (by rw[hbe];have h8:=k8 (xs.take k);rw[List.length_take] at h8;have h9:=k8 [xs.getD k 0];rw[List.length_singleton] at h9;omega) rfl fun ar au Y av U aj =>?_)
  refine gz hK2 U (.assign rfl .nil) fun Y U =>?_
  replace U:=U.oz [0,3,4]
  refine wp_region_lit ?_
  refine k9 U (.move rfl<|.inc (k+1)<|.assign rfl .nil) fun Y U =>?_
  refine wpList_nil ?_
  show ∃ n',n'<_∧_
  exact⟨xs.length - (k+1),by omega,k+1,_,_,_,by omega,rfl,by rw[nP _ _ hk,← hbe,l8],U.only [0,3,4],aj.only [9]⟩
 intro hb9 U;try simp only [QQ,Qax] at hb9
 revert U
 obtain rfl:k=xs.length:=by omega
 intro U
 refine wcf U ?_
 refine wp_exit ?_
 refine hK0 _ _ ?_
 refine la U (.move rfl<|.assign rfl .nil) fun Y U =>?_
 refine rt1 U ?_
 rw[List.take_length] at hbe
 revert U
 subst hbe
 intro U
 exact⟨_,_,rfl,m4.ok 9 _ rfl,m4.below⟩
theorem yQ(xs:List Int)(q:Option Addr)(cq:Nat)(w0:World)(h0:Rd (fun _=>True) w0 (.slice q xs.length cq) (.ns .u8 xs))(hl:xs.length≤1000000) :
   Calls Tryz.prog 66 #[.slice q xs.length cq] w0 fun e w' => ∃ (p:Option Addr) (c:Nat),e=.returned (.slice p (enc xs.length++xs).length c)∧w'.ownsRow w0.heap.size 5 1 (.slice p (enc xs.length++xs).length c) (enc xs.length++xs).length ((enc xs.length++xs).map (Value.int .u8))∧Below w0.heap.size w0 w':=by
 refine mp Tryz.func66 rfl Tryz.ntmps66 fun Y U =>?_
 have m0:=MemOk.start (fun _=>False) w0
 refine la U (.assign rfl .nil) fun Y U =>?_
 refine zsr fun K0 hK0 =>?_
 refine k9 U (.move rfl<|.len rfl U22<|.conv rfl U3 nb (r:=(xs.length:Int)) (IntWalk.u64_in _ (by omega)) .nil) fun Y U =>?_
 refine plz (lj U m0 20 (k:=.u64) rfl rfl tZ qS rfl rfl rfl rfl fun g8 Y w9 U m9 =>?_)
 have ab:=m9.freezeN 20 rfl
 refine plz (ecn U Tryz.func88 rfl ab 21 (xB [(xs.length:Int)] _ _ _ ((ab.rd (i:=20) rfl).any) (by simp) (zO (by omega))) fun ad ae Y ag U ac =>?_)
 refine k9 U (.move rfl .nil) fun Y U =>?_
 refine plz (lE U ac 21 rfl rfl rfl (h0.now' ac rfl).ns_out.nums U22 lJ (by decide) (by have h9:=k8 [(xs.length:Int)];rw[List.length_singleton] at h9;omega) rfl fun ah ai Y aj U aa =>?_)
 refine gz hK0 U (.assign rfl .nil) fun Y U =>?_
 refine rt1 U ?_
 have hE:ll [(xs.length:Int)]++xs=enc xs.length++xs:=by rw[l8]
 rw[hE] at aa
 exact⟨_,_,by rw[hE],aa.ok 21 _ rfl,aa.below⟩
theorem rQ(es:List (Int×List Int))(q:Option Addr)(nn cq:Nat)(w0:World)(h0:Rd (fun _=>True) w0 (.slice q nn cq) (.l 2 (es.map itD)))(hl:es.length≤10000)(hok:∀ e∈es,(0≤e.1∧e.1≤9223372036854775807)∧e.2.length≤1000) :
   Calls Tryz.prog 43 #[.slice q nn cq] w0 fun e w' => ∃ (p:Option Addr) (c:Nat),e=.returned (.slice p (enc es.length++mq es).length c)∧w'.ownsRow w0.heap.size 5 1 (.slice p (enc es.length++mq es).length c) (enc es.length++mq es).length ((enc es.length++mq es).map (Value.int .u8))∧Below w0.heap.size w0 w':=by
 obtain rfl:nn=es.length:=by obtain⟨pq,c9,hv,_⟩:=h0.l_shape;injection hv with _ e2 _;rw[List.length_map] at e2;exact e2
 refine mp Tryz.func43 rfl Tryz.ntmps43 fun Y U =>?_
 have m0:=MemOk.start (fun _=>False) w0
 refine la U (.assign rfl .nil) fun Y U =>?_
 refine zsr fun K0 hK0 =>?_
 refine k9 U (.move rfl<|.len rfl U28 .nil) fun Y U =>?_
 refine plz (lj U m0 20 (k:=.i64) rfl rfl U32 lS rfl rfl rfl rfl fun g6 Y w7 U m7 =>?_)
 have m8:=m7.freezeN 20 rfl
 refine plz (ecn U Tryz.func42 rfl m8 21 (o6 [(es.length:Int)] _ _ _ ((m8.rd (i:=20) rfl).any) (by simp) (tw (by omega))) fun p9 c9 Y w9 U az =>?_)
 refine gz hK0 U (.assign rfl .nil) fun Y U =>?_
 refine wsk fun K1 hK1 =>?_
 refine la U (.assign rfl .nil) fun Y U =>?_
 refine wp_block ?_
 refine wp_loop_ghost (fun g a w => ∃ (k:Nat) (b:List Int) (p:Option Addr) (c:Nat),k≤es.length∧g=es.length - k∧b=enc es.length++mq (es.take k)∧Has 32 [(0,.slice q es.length cq),(3,.slice p b.length c),(4,.int .i64 k)] a∧MemOk (cn w0) w0 [(9,.num (.slice p b.length c) 5 .u8 b)] w) (es.length) ?_ ?_
 · exact⟨0,_,_,_,Nat.zero_le _,rfl,by rw[l8];simp [mq],U.only [0,3,4],az.ren [(9,21)] (by decide)⟩
 clear U az
 rintro g Y aN ⟨k,b,p,c,hkl,hg,hbe,U,aj⟩
 refine wsk fun K2 hK2 =>?_
 refine la U (.move rfl<|.move rfl<|.len rfl U28<|.lss rfl rfl .nil) fun Y U =>?_
 refine bc U 12 ?_ ?_
 ·
  intro ad U;try simp only [QQ,Qax] at ad
  have hk:k<es.length:=by omega
  obtain⟨⟨xb,xd⟩,hes⟩:∃ e,es[k]? = some e:=⟨_,List.getElem?_eq_getElem hk⟩
  have hed:=hok _ (List.mem_of_getElem? hes)
  dsimp only at hed
  refine wct U ?_
  refine zss (hK2 _ _ ?_)
  refine wsk fun K3 hK3 =>?_
  refine wp_block ?_
  obtain⟨aD,aE,aF,ak,aG,al,ag⟩:=h0.extA (k) (r:=[.v (.int .i64 xb),.ns .u8 xd]) (lm hes)
  revert U
  cases ak
  rcases al with _|⟨aa,_|⟨ae,_|_⟩⟩
  obtain rfl:=aa.v_out
  clear aa
  obtain⟨aO,aP,ao,aH⟩:=ae.ns_shape;subst ao
  intro U
  obtain⟨aI,aJ,aK,ap,aL,aq,ah⟩:=h0.extA (k) (r:=[.v (.int .i64 xb),.ns .u8 xd]) (lm hes)
  revert U
  cases ap
  rcases aq with _|⟨ab,_|⟨ac,_|_⟩⟩
  obtain rfl:=ab.v_out
  clear ab
  obtain⟨aQ,aR,ar,aM⟩:=ac.ns_shape;subst ar
  intro U
  have au:=aj.oz [9]
  refine region_p 17 (B:=[]) (au.to trivial) au (by kernel_rfl) (fun aS ai aA =>?_);clear au
  refine goR ai [0,1,2,3,4,5,9,10,11,12,13] [5,13] 11 0 15935 U (aA.to trivial) (.move rfl<|.move rfl<|.move rfl<|.p (fun _ _ h_=>li h_ rfl rfl U28 lX (k) rfl hk)<|.fieldAddrQ 0 rfl U78 rfl (s:=0) (by kernel_rfl) rfl<|.loadAt1 (fun _ h_=>(ag h_ rfl)) (q:=0) rfl rfl rfl U3 rfl<|.move rfl<|.move rfl<|.p (fun _ _ h_=>li h_ rfl rfl U28 lX (k) rfl hk)<|.fieldAddrQ 1 rfl U78 rfl (s:=0) (by kernel_rfl) rfl<|.loadAt1 (fun _ h_=>(ah h_ rfl)) (q:=1) rfl rfl rfl U22 rfl .nil) fun Y U =>?_
  refine so 6 ?_
  refine lj U aA 102 (k:=.i64) rfl rfl U32 lS rfl rfl rfl rfl fun aT Y aU U aB =>?_
  refine⟨aB.to trivial,?_⟩
  have aC:=aB.freezeN 102 rfl
  refine so 7 ?_
  refine ecn U Tryz.func42 rfl aC 103 (o6 [xb] _ _ _ ((aC.rd (i:=102) rfl).any) (by simp) (tw (by omega))) fun aV aW Y aX U av =>?_
  refine⟨av.to trivial,?_⟩
  refine so 8 ?_
  refine lE U av 9 rfl rfl rfl (av.numsO (i:=103) rfl) U22 lJ (by decide) (by rw[hbe];have h8:=qe (es.take k) (fun e he=>(hok e (List.mem_of_mem_take he)).2);rw[List.length_take] at h8;have h9:=k8 [xb];rw[List.length_singleton] at h9;have h7:=(lv es.length).1;have h6:=(lv xd.length).1;simp only [List.length_append];omega) rfl fun aY aZ Y a0 U aw =>?_
  refine⟨aw.to trivial,?_⟩
  refine so 14 ?_
  refine ecn U Tryz.func66 rfl aw 104 (yQ xd _ _ _ ((ac.now' aw rfl).any) (by omega)) fun a1 a2 Y a3 U ax =>?_
  refine⟨ax.to trivial,?_⟩
  refine so 15 ?_
  refine lE U ax 9 rfl rfl rfl (ax.numsO (i:=104) rfl) U22 lJ (by decide) (by rw[hbe];have h8:=qe (es.take k) (fun e he=>(hok e (List.mem_of_mem_take he)).2);rw[List.length_take] at h8;have h9:=k8 [xb];rw[List.length_singleton] at h9;have h7:=(lv es.length).1;have h6:=(lv xd.length).1;simp only [List.length_append];omega) rfl fun a4 a5 Y a6 U ay =>?_
  refine⟨ay.to trivial,?_⟩
  refine goA ai [16] 1 65535 131071 U (ay.to trivial) (.assign rfl .nil) fun Y U =>?_
  refine wad ?_
  refine hK3 _ _ ?_
  replace U:=U.oz [0,3,4]
  refine wp_region_lit ?_
  refine k9 U (.move rfl<|.inc (k+1)<|.assign rfl .nil) fun Y U =>?_
  refine wpList_nil ?_
  show ∃ n',n'<_∧_
  exact⟨es.length - (k+1),by omega,k+1,_,_,_,by omega,rfl,by rw[hbe,sr hes,l8];simp only [rP,List.append_assoc],U.only [0,3,4],ay.only [9]⟩
 intro ad U;try simp only [QQ,Qax] at ad
 revert U
 obtain rfl:k=es.length:=by omega
 intro U
 refine wcf U ?_
 refine wp_exit ?_
 refine hK1 _ _ ?_
 refine la U (.move rfl<|.assign rfl .nil) fun Y U =>?_
 refine rt1 U ?_
 rw[List.take_length] at hbe
 revert U
 subst hbe
 intro U
 exact⟨_,_,rfl,aj.ok 9 _ rfl,aj.below⟩
end
section
theorem shx{k:Nat}(hk:k≤9):min (7*(k:Int)).toNat IntKind.u64.bits=7*k:=by
 have:IntKind.u64.bits=64:=rfl
 omega
theorem yN{b:List Int}{k:Nat}(h:lg b)(hk:k<b.length):0≤b.getD k 0∧b.getD k 0≤255:=by
 rw[List.getD,List.getElem?_eq_getElem hk];exact h _ (List.getElem_mem hk)
theorem zL{b:List Int}{u k:Nat}(hk:k<b.length):dec u k (b.drop k)=if (k=9∧1<b.getD k 0)∨(0<k∧b.getD k 0=0) then .err 20 else if b.getD k 0<128 then .ok (u+(b.getD k 0 % 128).toNat*2 ^ (7*k)) (k+1) else dec (u+(b.getD k 0 % 128).toNat*2 ^ (7*k)) (k+1) (b.drop (k+1)):=by
 rw[List.drop_eq_getElem_cons hk,dec,List.getD,List.getElem?_eq_getElem hk];rfl
end
section
theorem wC{S:Nat→Prop}{w:World}{v:Value}{ls:List (List Int)}(h:Rd S w v (.l 1 (ls.map bD))):IsLists w v ls:=by
 rcases h.l_out with h0|⟨b,off,c,f,rfl,h1,h2,h3,h4,h5⟩
 · have e:ls=[]:=List.map_eq_nil_iff.1 h0
   subst e
   obtain⟨p,c,rfl,-⟩:=h.l_shape
   exact⟨p,c,rfl,.inl rfl⟩
 refine⟨_,c,by rw[List.length_map],.inr ⟨b,off,rfl,h2,fun j hj =>?_⟩⟩
 have hj':j<(ls.map bD).length:=by rw[List.length_map];exact hj
 have h6:=(h4 j 0 hj' (by decide)).1
 refine⟨_,by rw[show off+j=off+j*1+0 by omega];exact h6,?_⟩
 have h7:=h5 j 0 (bD (ls.getD j [])) (.ns .u8 (ls.getD j [])) (by rw[List.getElem?_map,List.getD,List.getElem?_eq_getElem hj];rfl) rfl
 exact h7.ns_out.nums
theorem uE(v:Value)(xs:List Int)(w0:World)(h:Rd (fun _=>True) w0 v (.ns .u64 xs))(hl:xs.length≤1000)(hxb:∀ k,k<xs.length→0≤xs.getD k 0∧xs.getD k 0≤9223372036854775807) :
   Calls Tryz.prog 87 #[v] w0 fun e w' => ∃ p c,e=.returned (.slice p (ll xs).length c)∧w'.ownsRow w0.heap.size 5 1 (.slice p (ll xs).length c) (ll xs).length ((ll xs).map (Value.int .u8))∧Below w0.heap.size w0 w':=by
 refine(yJ v xs w0 h.ns_out.nums (fun j hj=>⟨(hxb j hj).1,by have:=(hxb j hj).2;omega⟩) hl).mono fun e w' h =>?_
 obtain⟨u,rfl,hown,hbel⟩:=h
 obtain⟨p,c,rfl⟩:=l6 hown
 exact⟨p,c,rfl,hown,hbel⟩
theorem yM(v:Value)(ls:List (List Int))(w0:World)(h:Rd (fun _=>True) w0 v (.l 1 (ls.map bD)))(hl:ls.length≤1000)(hs:lD ls≤1000000) :
   Calls Tryz.prog 38 #[v] w0 fun e w' => ∃ p c,e=.returned (.slice p (ls.flatten).length c)∧w'.ownsRow w0.heap.size 5 1 (.slice p (ls.flatten).length c) (ls.flatten).length ((ls.flatten).map (Value.int .u8))∧Below w0.heap.size w0 w':=by
 refine(wA v ls w0 (wC h) hl hs).mono fun e w' h =>?_
 obtain⟨u,rfl,hown,hbel⟩:=h
 obtain⟨p,c,rfl⟩:=l6 hown
 exact⟨p,c,rfl,hown,hbel⟩
end
section
theorem lz(xs:List Int)(q:Option Addr)(cq:Nat)(w0:World)(h0:Rd (fun _=>True) w0 (.slice q xs.length cq) (.ns .i64 xs))(hl:xs.length≤1000000)(hxb:∀ k,k<xs.length→0≤xs.getD k 0∧xs.getD k 0≤9223372036854775807) :
   Calls Tryz.prog 39 #[.slice q xs.length cq] w0 fun e w' => ∃ (p:Option Addr) (c:Nat),e=.returned (.slice p (ll xs).length c)∧w'.ownsRow w0.heap.size 5 1 (.slice p (ll xs).length c) (ll xs).length ((ll xs).map (Value.int .u8))∧Below w0.heap.size w0 w':=by
 refine mp Tryz.func39 rfl Tryz.ntmps39 fun Y U =>?_
 have m0:=MemOk.start (fun _=>False) w0
 refine la U (.assign rfl .nil) fun Y U =>?_
 refine la U (.assign rfl .nil) fun Y U =>?_
 refine wsk fun K0 hK0 =>?_
 refine la U (.move rfl<|.len rfl U31<|.move rfl .nil) fun Y U =>?_
 refine wp_block ?_
 refine wp_loop_ghost (fun g a w => ∃ (k:Nat) (b:List Int) (p:Option Addr) (c:Nat),k≤xs.length∧g=xs.length - k∧b=ll (xs.take k)∧Has 20 [(3,.slice p b.length c),(6,.slice q xs.length cq),(7,.int .i64 xs.length),(8,.int .i64 k)] a∧MemOk (cn w0) w0 [(9,.num (.slice p b.length c) 5 .u8 b)] w) (xs.length) ?_ ?_
 · have mz:=m0.nilN 9 5 .u8
   exact⟨0,[],_,_,Nat.zero_le _,rfl,rfl,U.only [3,6,7,8],mz.only [9]⟩
 clear U m0
 rintro g Y w6 ⟨k,b,p,c,hkl,hg,hbe,U,m6⟩
 refine la U (.lss rfl rfl .nil) fun Y U =>?_
 refine wsk fun K1 hK1 =>?_
 refine bc U 9 ?_ ?_
 ·
  intro hb8 U;try simp only [QQ,Qax] at hb8
  have hk:k<xs.length:=by have:=hb8;first|omega|(simp at this;omega)
  have hxk:=hxb k hk
  refine wct U ?_
  refine zss (hK1 _ _ ?_)
  refine wsk fun K2 hK2 =>?_
  refine wp_block ?_
  refine zsr fun K3 hK3 =>?_
  obtain⟨ae,ag,ab,ah,aa⟩:=h0.extN (k) hk
  revert U
  cases ab
  intro U
  refine gz hK3 U (.c rfl (fun _ h_=>li h_ rfl rfl U31 ma (k) rfl hk)<|.loadAt1 (aa m6 rfl) (q:=0) rfl rfl rfl U3 rfl<|.assign rfl<|.nil) fun Y U =>?_
  refine wp_region_lit ?_
  refine k9 U (.move rfl<|.move rfl<|.conv rfl U3 nb (r:=xs.getD k 0) (IntWalk.u64_in _ (by omega)) .nil) fun Y U =>?_
  refine plz (lj U m6 100 (k:=.u64) rfl rfl tZ qS rfl rfl rfl rfl fun ak Y al U ai =>?_)
  have ac:=ai.freezeN 100 rfl
  refine plz (ecn U Tryz.func87 rfl ac 101 (uE _ [xs.getD k 0] _ ((ac.rd (i:=100) rfl).any) (by simp) (tw (by omega))) fun ao ap Y aq U ad =>?_)
  refine plz (lE U ad 9 rfl rfl rfl (ad.numsO (i:=101) rfl) U22 lJ (by decide) (by rw[hbe];have h8:=k8 (xs.take k);rw[List.length_take] at h8;have h9:=k8 [xs.getD k 0];rw[List.length_singleton] at h9;omega) rfl fun ar au Y av U aj =>?_)
  refine gz hK2 U (.assign rfl .nil) fun Y U =>?_
  replace U:=U.oz [3,6,7,8]
  refine wp_region_lit ?_
  refine k9 U (.inc (k+1)<|.move rfl .nil) fun Y U =>?_
  refine wpList_nil ?_
  show ∃ n',n'<_∧_
  exact⟨xs.length - (k+1),by omega,k+1,_,_,_,by omega,rfl,by rw[nP _ _ hk,← hbe,l8],U.only [3,6,7,8],aj.only [9]⟩
 intro hb8 U;try simp only [QQ,Qax] at hb8
 revert U
 obtain rfl:k=xs.length:=by have:=hb8;first|omega|(simp at this;omega)
 intro U
 refine wcf U ?_
 refine wp_exit ?_
 refine hK0 _ _ ?_
 refine la U (.move rfl<|.assign rfl .nil) fun Y U =>?_
 refine rt1 U ?_
 rw[List.take_length] at hbe
 revert U
 subst hbe
 intro U
 exact⟨_,_,rfl,m6.ok 9 _ rfl,m6.below⟩
theorem lM(xs:List Int)(q:Option Addr)(cq:Nat)(w0:World)(h0:Rd (fun _=>True) w0 (.slice q xs.length cq) (.ns .i64 xs))(hl:xs.length≤1000000)(hxb:∀ k,k<xs.length→0≤xs.getD k 0∧xs.getD k 0≤9223372036854775807) :
   Calls Tryz.prog 40 #[.slice q xs.length cq] w0 fun e w' => ∃ (p:Option Addr) (c:Nat),e=.returned (.slice p (ll xs).length c)∧w'.ownsRow w0.heap.size 5 1 (.slice p (ll xs).length c) (ll xs).length ((ll xs).map (Value.int .u8))∧Below w0.heap.size w0 w':=by
 refine mp Tryz.func40 rfl Tryz.ntmps40 fun Y U =>?_
 have m0:=MemOk.start (fun _=>False) w0
 refine la U (.assign rfl .nil) fun Y U =>?_
 refine la U (.assign rfl .nil) fun Y U =>?_
 refine wsk fun K0 hK0 =>?_
 refine la U (.move rfl<|.len rfl U32<|.move rfl .nil) fun Y U =>?_
 refine wp_block ?_
 refine wp_loop_ghost (fun g a w => ∃ (k:Nat) (b:List Int) (p:Option Addr) (c:Nat),k≤xs.length∧g=xs.length - k∧b=ll (xs.take k)∧Has 20 [(3,.slice p b.length c),(6,.slice q xs.length cq),(7,.int .i64 xs.length),(8,.int .i64 k)] a∧MemOk (cn w0) w0 [(9,.num (.slice p b.length c) 5 .u8 b)] w) (xs.length) ?_ ?_
 · have mz:=m0.nilN 9 5 .u8
   exact⟨0,[],_,_,Nat.zero_le _,rfl,rfl,U.only [3,6,7,8],mz.only [9]⟩
 clear U m0
 rintro g Y w6 ⟨k,b,p,c,hkl,hg,hbe,U,m6⟩
 refine la U (.lss rfl rfl .nil) fun Y U =>?_
 refine wsk fun K1 hK1 =>?_
 refine bc U 9 ?_ ?_
 ·
  intro hb8 U;try simp only [QQ,Qax] at hb8
  have hk:k<xs.length:=by have:=hb8;first|omega|(simp at this;omega)
  have hxk:=hxb k hk
  refine wct U ?_
  refine zss (hK1 _ _ ?_)
  refine wsk fun K2 hK2 =>?_
  refine wp_block ?_
  refine zsr fun K3 hK3 =>?_
  obtain⟨ae,ag,ab,ah,aa⟩:=h0.extN (k) hk
  revert U
  cases ab
  intro U
  refine gz hK3 U (.c rfl (fun _ h_=>li h_ rfl rfl U32 l3 (k) rfl hk)<|.loadAt1 (aa m6 rfl) (q:=0) rfl rfl rfl U2 rfl<|.assign rfl<|.nil) fun Y U =>?_
  refine wp_region_lit ?_
  refine k9 U (.move rfl<|.move rfl<|.conv rfl U2 nb (r:=xs.getD k 0) (IntWalk.u64_in _ (by omega)) .nil) fun Y U =>?_
  refine plz (lj U m6 100 (k:=.u64) rfl rfl tZ qS rfl rfl rfl rfl fun ak Y al U ai =>?_)
  have ac:=ai.freezeN 100 rfl
  refine plz (ecn U Tryz.func87 rfl ac 101 (uE _ [xs.getD k 0] _ ((ac.rd (i:=100) rfl).any) (by simp) (tw (by omega))) fun ao ap Y aq U ad =>?_)
  refine plz (lE U ad 9 rfl rfl rfl (ad.numsO (i:=101) rfl) U22 lJ (by decide) (by rw[hbe];have h8:=k8 (xs.take k);rw[List.length_take] at h8;have h9:=k8 [xs.getD k 0];rw[List.length_singleton] at h9;omega) rfl fun ar au Y av U aj =>?_)
  refine gz hK2 U (.assign rfl .nil) fun Y U =>?_
  replace U:=U.oz [3,6,7,8]
  refine wp_region_lit ?_
  refine k9 U (.inc (k+1)<|.move rfl .nil) fun Y U =>?_
  refine wpList_nil ?_
  show ∃ n',n'<_∧_
  exact⟨xs.length - (k+1),by omega,k+1,_,_,_,by omega,rfl,by rw[nP _ _ hk,← hbe,l8],U.only [3,6,7,8],aj.only [9]⟩
 intro hb8 U;try simp only [QQ,Qax] at hb8
 revert U
 obtain rfl:k=xs.length:=by have:=hb8;first|omega|(simp at this;omega)
 intro U
 refine wcf U ?_
 refine wp_exit ?_
 refine hK0 _ _ ?_
 refine la U (.move rfl<|.assign rfl .nil) fun Y U =>?_
 refine rt1 U ?_
 rw[List.take_length] at hbe
 revert U
 subst hbe
 intro U
 exact⟨_,_,rfl,m6.ok 9 _ rfl,m6.below⟩
end
section
section
variable {P:Program} {ops:Array Oper} {Q:Exit→Act→World→Prop} {md:Region.Mode} {listed:Array Bool} {fuel e:Nat} {S:World→Prop} {a:Act} {w:World}
theorem Aa{I:Act→World→Prop}(k m':Nat)(h:∀ a w,I a w→lp P md ops Q e S k (lst ops.size m') a w)(g:(∀ a w,I a w→lp P md ops Q e S k (lst ops.size m') a w)→lp P md ops Q e S fuel listed a w):lp P md ops Q e S fuel listed a w:=g h
theorem ldl(m:Nat)(h:lp P md ops Q e S fuel (lst ops.size m) a w)(hl:listed=lst ops.size m:=by kernel_rfl):lp P md ops Q e S fuel listed a w:=hl ▸ h
end
end
section
theorem wD(x:List Int)(e most:Int):∃ k,k≤x.length∧(lQ x e most).2.1=x.drop k:=by
 unfold lQ
 split
 · split
   · exact⟨x.length,Nat.le_refl _,(List.drop_length).symm⟩
   split
   · exact⟨x.length,Nat.le_refl _,(List.drop_length).symm⟩
   rename_i n k _ _
   by_cases hk:k≤x.length
   · exact⟨k,hk,rfl⟩
   exact⟨x.length,Nat.le_refl _,by rw[List.drop_length,List.drop_of_length_le (by omega)]⟩
 exact⟨0,Nat.zero_le _,rfl⟩
theorem rt{P:Program}(w:World)(t e e':TypeId)(g:Nat)(C:Array Value)(fr:Nat×Nat)(n c:Nat)(hb:w.heap[g]? = some (.cells C e' fr))(ht:P.underlying t=some (.slice e))(he:P.underlying e=some (.int .u8)) :
   (convert t t (.slice (some ⟨g,0,none⟩) n c)).run P w=.ok (.slice (some ⟨g,0,none⟩) n c) (w.freeze ⟨g,C.size,none⟩ 1):=by
 have hsh:w.shape? g=some (e',C.size):=by unfold World.shape?;rw[hb]
 simp [convert,run_underlying ht,run_underlying he,markStringish,hsh]
theorem ru(w:World)(g k b:Nat)(hb:b≠g):(w.freeze ⟨g,k,none⟩ 1).heap[b]? = w.heap[b]?:=by
 unfold World.freeze
 rw[if_neg (by decide)]
 show(w.heap.modify g _)[b]? = _
 rw[Array.getElem?_modify,if_neg (fun h=>hb h.symm)]
theorem pN(w:World)(g k:Nat):(w.freeze ⟨g,k,none⟩ 1).heap.size=w.heap.size:=by
 unfold World.freeze
 rw[if_neg (by decide)]
 show(w.heap.modify g _).size=_
 rw[Array.size_modify]
theorem sn(w:World)(g k j:Nat)(C:Array Value)(e:TypeId)(fr:Nat×Nat)(hb:w.heap[g]? = some (.cells C e fr)):(w.freeze ⟨g,k,none⟩ 1).cell? ⟨g,j,none⟩=w.cell? ⟨g,j,none⟩:=by
 have h:∃ fr',(w.freeze ⟨g,k,none⟩ 1).heap[g]? = some (.cells C e fr'):=by
   unfold World.freeze
   rw[if_neg (by decide)]
   obtain⟨lo,hi⟩:=fr
   refine⟨(if lo == hi then (k,k+1) else (min lo k,max hi (k+1))),?_⟩
   show(w.heap.modify g _)[g]? = _
   rw[Array.getElem?_modify,if_pos rfl,hb]
   rfl
 obtain⟨fr',h⟩:=h
 unfold World.cell?
 simp [h,hb]
theorem sp(w:World)(g k:Nat):Keep (fun b=>b=g) w (w.freeze ⟨g,k,none⟩ 1):=by
 refine⟨?_,?_,?_,Nat.le_of_eq (pN w g k).symm,fun b hb hn=>ru w g k b hn⟩ <;> (unfold World.freeze;rw[if_neg (by decide)])
theorem Av{P:Program}{X:Cx}{M:Mm}{T:List (Nat×Value)}{n:Nat}{a:Act}{w w0:World}{K:Act→World→Prop}{Q:Exit→Act→World→Prop}{tt:TypeId}{pos:String}{af:Array Edge}{gd:Option (Nat×Bool)}(ha:Has n T a)(m:MemOk X w0 M w)(i:Nat){d:Tmp}{t e e':TypeId}{x:Operand}{g l c:Nat}{zs:List Int}(hm:lk M i=some (.num (.slice (some ⟨g,0,none⟩) l c) e' .u8 zs))(hp:evT T x=some (.slice (some ⟨g,0,none⟩) l c))(hu:P.underlying t=some (.slice e))(he:P.underlying e=some (.int .u8))(ht:Nat.blt d n=true)
   (h:∀ a' w',Has n ((d,.slice (some ⟨g,0,none⟩) l c) :: T) a'→MemOk X w0 ((i,.dat (.slice (some ⟨g,0,none⟩) l c) (.ns .u8 zs)) :: M) w'→K a' w'):Oper.wp P ⟨some d,.convert t t x,tt,pos,af,gd⟩ a w K Q:=by
 have how:=m.ok i _ hm
 have hev:=ha.ev hp
 rcases how.2 with ⟨hv,h0⟩|⟨g',cap,cur,hv,hg,hbk,h1,h2,h3,h4⟩
 · injection hv with hv _ _;cases hv
 injection hv with hv1 hv2 hv3
 injection hv1 with hv1;injection hv1 with hv1 _ _
 subst hv1;subst hv2;subst hv3
 have hc:=rt (P:=P) w t e _ g _ _ zs.length c hbk hu he
 have hrun:(execOp a.eval ⟨some d,.convert t t x,tt,pos,af,gd⟩).run P w=.ok (.value (.slice (some ⟨g,0,none⟩) zs.length c)) (w.freeze ⟨g,cur.size,none⟩ 1):=by
   simp only [execOp,hev,Sem.run_bind,hc,Result.andThen_ok,Sem.run_pure]
 show Oper.upon P _ a K Q _
 rw[hrun]
 have hlt:=(Array.getElem?_eq_some_iff.1 hbk).1
 refine h _ _ (ha.put ht _) (m.upd i _ ((sp w g _).mono (fun b hb=>⟨_,hm,by rw[hb];rfl⟩)) (fun b hb=>by cases hb) (fun _ hf=>.ns ⟨_,c,rfl,⟨h1,h2⟩,.inr ⟨g,0,rfl,hf g ⟨_,hm,rfl⟩ hg (fun c hc=>by cases hc),by rw[pN];exact hlt,fun j hj =>?_⟩⟩))
 rw[sn w g _ _ _ _ _ hbk]
 have:=how.cellAt j (by omega)
 rw[Nat.zero_add,this]
 simp [hj,List.getD]
abbrev cxt(w:World):Cx:=cx (fun _=>True) w
theorem MemOk.own_new{w0 w:World}{M:Mm}(m:MemOk (cxt w0) w0 M w){b:Nat}(h:Own M b):w0.heap.size≤b:=by
 obtain⟨i,r,hl,hb⟩:=h
 have hok:=m.ok i r hl
 have hn:¬ b∈(cxt w0).bad:=List.not_mem_nil
 cases r with
 | dat v d=>cases hb
 | box g e cs=>injection hb with hb;subst hb;exact hok.2.resolve_right hn
 | num v e k zs=>exact(World.ownsRow.lt hok b hb).1
 | row v e k rows=>obtain⟨cs,q,_⟩:=hok;exact(World.ownsRow.lt q b hb).1
 | cel b o vs=>cases hb
 | rowC v e k rows cs=>exact(World.ownsRow.lt hok.1 b hb).1
 | seg v e k rows=>exact(hok.2 b hb).resolve_right hn
 | any g=>injection hb with hb;subst hb;exact hok.2.resolve_right hn
 | gone=>cases hb
theorem MemOk.old{w0 w:World}{M:Mm}(m:MemOk (cxt w0) w0 M w){S:Nat→Prop}{v:Value}{d:D}(h:Rd S w0 v d):Rd (mP (cxt w0) M) w v d:=
 h.mono m.keep.2.2.2.1 (fun b hlt _=>⟨m.keep.2.2.2.2 b hlt (by simp [cx]),fun _=>trivial,fun ho=>by have:=m.own_new ho;omega⟩)
theorem lB{v:Value}{ls:List (List Int)}{w0:World}{S:List Int}(h:Rd (fun _=>True) w0 v (.l 1 (ls.map bD)))(hl:ls.length≤1000)(hs:lD ls≤1000000)(hS:ls.flatten=S) :
   Calls Tryz.prog 38 #[v] w0 fun e w' => ∃ p c,e=.returned (.slice p S.length c)∧w'.ownsRow w0.heap.size 5 1 (.slice p S.length c) S.length (S.map (Value.int .u8))∧Below w0.heap.size w0 w':=by
 subst hS;exact yM v ls w0 h hl hs
theorem b63{l:List Int}(h:∀ x∈l,0≤x∧x≤9223372036854775807):∀ k,k<l.length→0≤l.getD k 0∧l.getD k 0≤9223372036854775807:=fun k hk=>by
 rw[List.getD,List.getElem?_eq_getElem hk];exact h _ (List.getElem_mem hk)
theorem nt{a b:List Int}(ha:lg a)(hb:lg b):lg (a++b):=fun x hx=>(List.mem_append.1 hx).elim (ha x) (hb x)
theorem vY{x:Int}(h:x≤18446744073709551615):lg (enc x):=rq x h
theorem m1{l:List Int}(h:∀ x∈l,x≤18446744073709551615):lg (ll l):=fun x hx=>by
 obtain⟨y,hy,hxy⟩:=List.mem_flatMap.1 hx
 exact rq y (h y hy) x hxy
end
section
theorem pg{P:Program}{T:List (Nat×Value)}{n:Nat}{a:Act}{w:World}{k:IntKind}{p q r:Int}{d:Option Tmp}{x y:Operand}{t t2 tt:TypeId}{pos:String}{af:Array Edge}{gd:Option (Nat×Bool)}(h:Has n T a)(hx:evT T x=some (.int k p))(hy:evT T y=some (.int k q))(hr:bits .andNot k p q=r):Yl P a w ⟨d,.binOp .andNot t x y t2,tt,pos,af,gd⟩ (.int k r):=by
 subst hr
 show(execOp _ _).run P w=_;simp only [execOp,eqGuard,binOp,Op.intBits,h.ev hx,h.ev hy,bits];simp
end
end Go.Proofs.YteglmahnkfgelaaGreat.K
