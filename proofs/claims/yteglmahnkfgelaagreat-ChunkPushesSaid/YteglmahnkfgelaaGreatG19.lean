/- General laws of walks. -/
import Derived.Test.YteglmahnkfgelaaGreatG18
namespace Go.Proofs.YteglmahnkfgelaaGreat.K
open Go.ChangeShapes Go.WideShapes Go.ChangeAt Go.RowKit
set_option linter.unusedVariables false
set_option linter.unusedSimpArgs false
set_option maxRecDepth 100000
set_option maxHeartbeats 4000000
set_option autoImplicit true
set_option relaxedAutoImplicit true
section
theorem u2(X:Cx)(B:Nat)(v:Value)(er cd:Int)(w0:World)(m0:MemOk X w0 [(1,.box B 115 [v,.int .i64 er])] w0) :
   Calls Tryz.prog 97 #[.pointer (some ⟨B,0,none⟩),.int .i64 cd] w0 fun e w'=>e=.returned (.tuple #[])∧MemOk X w0 [(1,.box B 115 [.slice none 0 0,.int .i64 cd])] w':=by
 refine mR Tryz.func97 rfl Tryz.ntmps97 fun Y U =>?_
 refine wp_region_lit ?_
 refine k9 U (.move rfl<|.move rfl<|.move rfl<|.nilCheck rfl<|.fa 0 rfl pP .nil) fun Y U =>?_
 refine plz (st1 U m0 1 oN fun w6 m6 _ =>?_)
 refine k9 U (.nilCheck rfl<|.fa 1 rfl pP .nil) fun Y U =>?_
 refine plz (st1 U m6 1 Am fun w9 m9 _ =>?_)
 refine wpList_nil ?_
 try dsimp only [Exit.then,Exit.inBlock]
 try refine sE ?_
 refine(AI (fn:=Tryz.f97) U rfl ?_)
 exact⟨rfl,m9.only [1]⟩
theorem rv(X:Cx)(B:Nat)(b:List Int)(er:Int)(p:Option Addr)(c:Nat)(w0:World)(hb:b.length≤1000000)(hbb:lg b)(m0:MemOk X w0 [(1,.box B 115 [.slice p (b).length c,.int .i64 er]),(2,.dat (.slice p (b).length c) (.ns .u8 (b)))] w0) :
   Calls Tryz.prog 96 #[.pointer (some ⟨B,0,none⟩)] w0 fun e w' => ∃ (n:Nat) (p':Option Addr) (c':Nat) (r:List Int) (e1:Int),e=.returned (.tuple #[.int .u64 (n:Int),.int .i64 e1])∧((∃ j,dec 0 0 b=.ok n j∧e1=0∧r=b.drop j)∨(dec 0 0 b=.err e1∧n=0∧r=b))∧MemOk X w0 [(1,.box B 115 [.slice p' (r).length c',.int .i64 er]),(2,.dat (.slice p' (r).length c') (.ns .u8 (r)))] w':=by
 refine mp Tryz.func96 rfl Tryz.ntmps96 fun Y U =>?_
 refine la U (.assign rfl<|.assign rfl .nil) fun Y U =>?_
 refine la U (.assign rfl .nil) fun Y U =>?_
 refine wsk fun K0 hK0 =>?_
 refine la U (.move rfl<|.nilCheck rfl<|.fa 0 rfl pP<|.lb m0 1 U22 rfl rfl rfl<|.len rfl U22<|.move rfl .nil) fun Y U =>?_
 refine wp_block ?_
 refine wp_loop_ghost (fun g a w => ∃ (k u:Nat),k≤b.length∧k≤9∧g=b.length - k∧u<2 ^ (7*k)∧dec u k (b.drop k)=dec 0 0 b∧Has 53 [(0,.pointer (some ⟨B,0,none⟩)),(4,.int .u64 (u:Int)),(10,.slice p b.length c),(11,.int .i64 b.length),(12,.int .i64 k)] a∧MemOk X w0 [(1,.box B 115 [.slice p (b).length c,.int .i64 er]),(2,.dat (.slice p (b).length c) (.ns .u8 (b)))] w) (b.length) ?_ ?_
 · exact⟨0,0,Nat.zero_le _,Nat.zero_le _,rfl,by decide,rfl,U.only [0,4,10,11,12],m0.only [1,2]⟩
 clear U m0
 rintro g Y aE ⟨k,u,hkl,hk9,hg,hu,hD0,U,ay⟩
 refine la U (.lss rfl rfl .nil) fun Y U =>?_
 refine wsk fun K1 hK1 =>?_
 refine bc U 13 ?_ ?_
 ·
  intro ah U;try simp only [QQ,Qax] at ah
  have hk:k<b.length:=by omega
  have hxb:=yN hbb hk
  have hD:=hD0
  rw[zL hk] at hD
  refine wct U ?_
  refine zss (hK1 _ _ ?_)
  refine wsk fun K2 hK2 =>?_
  refine wp_block ?_
  refine zsr fun K3 hK3 =>?_
  refine k9 U (.move rfl .nil) fun Y U =>?_
  obtain⟨aF,aG,au,aa⟩:=ay.openN (i:=2) rfl (k) hk 100 rfl
  revert U
  cases au
  intro U
  refine gz hK3 U (.c rfl (fun _ h_=>li h_ rfl rfl U22 mW (k) rfl hk)<|.loadC0 aa (i:=100) rfl rfl U5 rfl<|.assign rfl<|.assign rfl<|.nil) fun Y U =>?_
  refine wsk fun K4 hK4 =>?_
  refine zsr fun K5 hK5 =>?_
  refine k9 U (.move rfl<|.eql rfl rfl<|.move rfl .nil) fun Y U =>?_
  refine bc U 19 ?_ ?_
  ·
   intro ai U;try simp only [QQ,Qax] at ai
   refine k9 U (.moveZ rfl<|.gtrZ rfl rfl<|.pickT rfl rfl<|.move rfl .nil) fun Y U =>?_
   refine bc U 23 ?_ ?_
   ·
    intro aj U;try simp only [QQ,Qax] at aj
    have hE:dec 0 0 b=.err 20:=by rw[← hD,if_pos (by omega)]
    refine k9 U (.sk<|.sk<|.sk .nil) fun Y U =>?_
    refine lw U rfl rfl rfl rfl fun Y U =>?_
    refine lw U rfl rfl rfl rfl fun Y U =>?_
    refine gz hK5 U (.sk<|.pickT rfl rfl<|.nil) fun Y U =>?_
    refine wct U ?_
    replace U:=U.oz [0,4,10,11,12,5,6,19,23,26,30]
    refine la U (.assign rfl<|.assign rfl .nil) fun Y U =>?_
    refine rt2 U ?_
    exact⟨0,_,_,b,_,rfl,.inr ⟨hE,rfl,rfl⟩,aa.ren [(1,1),(2,2)] (by decide)⟩
   intro aj U;try simp only [QQ,Qax] at aj
   refine k9 U (.moveZ rfl<|.gtrZ rfl rfl<|.moveZ rfl .nil) fun Y U =>?_
   refine bc U 26 ?_ ?_
   ·
    intro ak U;try simp only [QQ,Qax] at ak
    refine gz hK5 U (.moveZ rfl<|.eqlZ rfl rfl<|.pickTZ rfl rfl<|.pickF rfl rfl<|.nil) fun Y U =>?_
    refine bc U 30 ?_ ?_
    ·
     intro al U;try simp only [QQ,Qax] at al
     have hE:dec 0 0 b=.err 20:=by rw[← hD,if_pos (by omega)]
     refine wct U ?_
     replace U:=U.oz [0,4,10,11,12,5,6,19,23,26,30]
     refine la U (.assign rfl<|.assign rfl .nil) fun Y U =>?_
     refine rt2 U ?_
     exact⟨0,_,_,b,_,rfl,.inr ⟨hE,rfl,rfl⟩,aa.ren [(1,1),(2,2)] (by decide)⟩
    intro al U;try simp only [QQ,Qax] at al
    have hno:¬ ((k=9∧1<(b.getD k 0))∨(0<k∧(b.getD k 0)=0)):=by omega
    have h9:k=9→(b.getD k 0)≤1:=by omega
    obtain⟨v,hv⟩:∃ v,u+((b.getD k 0) % 128).toNat*2 ^ (7*k)=v:=⟨_,rfl⟩
    refine wcf U ?_
    refine zss (hK4 _ _ ?_)
    replace U:=U.oz [0,4,10,11,12,5,6,19,23,26,30]
    refine la U (.move rfl<|.move rfl<|.c rfl (fun _ h_=>pg h_ rfl rfl (r:=(b.getD k 0) % 128) (oE _ hxb.1 hxb.2))<|.conv rfl U5 nb (r:=(b.getD k 0) % 128) (IntWalk.u64_in _ (by omega))<|.move rfl<|.mul rfl rfl (r:=7*(k:Int)) (IntWalk.i64_in _ (by omega))<|.shl rfl rfl (by omega) (r:=IntKind.u64.wrap ((b.getD k 0) % 128*2 ^ (7*k))) (by rw[shx hk9])<|.or rfl rfl (r:=(v:Int)) (by rw[← hv];exact pf u k (b.getD k 0) hu hk9 hxb.1 hxb.2 h9)<|.assign rfl .nil) fun Y U =>?_
    replace U:=U.oz [0,4,10,11,12,5,6,19,23,26,30]
    refine la U (.move rfl<|.lss rfl rfl .nil) fun Y U =>?_
    refine bc U 40 ?_ ?_
    ·
     intro ao U;try simp only [QQ,Qax] at ao
     have hO:dec 0 0 b=.ok v (k+1):=by rw[← hD,if_neg hno,if_pos (by omega),hv]
     refine wct U ?_
     refine zsr fun K6 hK6 =>?_
     refine k9 U (.move rfl<|.move rfl<|.nilCheck rfl<|.fa 0 rfl pP<|.lb aa 1 U22 rfl rfl rfl<|.move rfl<|.inc (k+1) .nil) fun Y U =>?_
     have aA:=aa.dropN (i:=2) rfl (k+1) (show k+1≤b.length by omega) 101 rfl
     refine k9 U (.c rfl (fun _ h_=>lK h_ (k+1) rfl rfl U22 mW rfl (show k+1≤b.length by omega))<|.nilCheck rfl<|.fa 0 rfl pP .nil) fun Y U =>?_
     refine plz (st1 U aA 1 oN fun aH az _ =>?_)
     refine znl (hK6 _ _ ?_)
     replace U:=U.oz [0,4,10,11,12,19,23,26,30,40]
     refine la U (.move rfl<|.assign rfl<|.assign rfl .nil) fun Y U =>?_
     refine rt2 U ?_
     have hl9:b.length - (k+1)=(b.drop (k+1)).length:=by rw[List.length_drop]
     rw[hl9] at az
     exact⟨v,_,_,b.drop (k+1),0,rfl,.inl ⟨_,hO,rfl,rfl⟩,az.ren [(1,1),(2,101)] (by decide)⟩
    intro ao U;try simp only [QQ,Qax] at ao
    refine wcf U ?_
    refine zss (hK2 _ _ ?_)
    refine wp_region_lit ?_
    refine k9 U (.inc (k+1)<|.move rfl .nil) fun Y U =>?_
    refine wpList_nil ?_
    show ∃ n',n'<_∧_
    exact⟨b.length - (k+1),by omega,k+1,v,by omega,by omega,rfl,by rw[← hv];exact oF u k (b.getD k 0) hu,by rw[← hD,if_neg hno,if_neg (by omega),hv],U.only [0,4,10,11,12],aa.only [1,2]⟩
   intro ak U;try simp only [QQ,Qax] at ak
   have hno:¬ ((k=9∧1<(b.getD k 0))∨(0<k∧(b.getD k 0)=0)):=by omega
   have h9:k=9→(b.getD k 0)≤1:=by omega
   obtain⟨v,hv⟩:∃ v,u+((b.getD k 0) % 128).toNat*2 ^ (7*k)=v:=⟨_,rfl⟩
   refine gz hK5 U (.sk<|.sk<|.pickFZ rfl rfl<|.pickF rfl rfl<|.nil) fun Y U =>?_
   refine wcf U ?_
   refine zss (hK4 _ _ ?_)
   replace U:=U.oz [0,4,10,11,12,5,6,19,23,26,30]
   refine la U (.move rfl<|.move rfl<|.c rfl (fun _ h_=>pg h_ rfl rfl (r:=(b.getD k 0) % 128) (oE _ hxb.1 hxb.2))<|.conv rfl U5 nb (r:=(b.getD k 0) % 128) (IntWalk.u64_in _ (by omega))<|.move rfl<|.mul rfl rfl (r:=7*(k:Int)) (IntWalk.i64_in _ (by omega))<|.shl rfl rfl (by omega) (r:=IntKind.u64.wrap ((b.getD k 0) % 128*2 ^ (7*k))) (by rw[shx hk9])<|.or rfl rfl (r:=(v:Int)) (by rw[← hv];exact pf u k (b.getD k 0) hu hk9 hxb.1 hxb.2 h9)<|.assign rfl .nil) fun Y U =>?_
   replace U:=U.oz [0,4,10,11,12,5,6,19,23,26,30]
   refine la U (.move rfl<|.lss rfl rfl .nil) fun Y U =>?_
   refine bc U 40 ?_ ?_
   ·
    intro ab U;try simp only [QQ,Qax] at ab
    have hO:dec 0 0 b=.ok v (k+1):=by rw[← hD,if_neg hno,if_pos (by omega),hv]
    refine wct U ?_
    refine zsr fun K7 hK7 =>?_
    refine k9 U (.move rfl<|.move rfl<|.nilCheck rfl<|.fa 0 rfl pP<|.lb aa 1 U22 rfl rfl rfl<|.move rfl<|.inc (k+1) .nil) fun Y U =>?_
    have av:=aa.dropN (i:=2) rfl (k+1) (show k+1≤b.length by omega) 101 rfl
    refine k9 U (.c rfl (fun _ h_=>lK h_ (k+1) rfl rfl U22 mW rfl (show k+1≤b.length by omega))<|.nilCheck rfl<|.fa 0 rfl pP .nil) fun Y U =>?_
    refine plz (st1 U av 1 oN fun aB ap _ =>?_)
    refine znl (hK7 _ _ ?_)
    replace U:=U.oz [0,4,10,11,12,19,23,26,30,40]
    refine la U (.move rfl<|.assign rfl<|.assign rfl .nil) fun Y U =>?_
    refine rt2 U ?_
    have hl9:b.length - (k+1)=(b.drop (k+1)).length:=by rw[List.length_drop]
    rw[hl9] at ap
    exact⟨v,_,_,b.drop (k+1),0,rfl,.inl ⟨_,hO,rfl,rfl⟩,ap.ren [(1,1),(2,101)] (by decide)⟩
   intro ab U;try simp only [QQ,Qax] at ab
   refine wcf U ?_
   refine zss (hK2 _ _ ?_)
   refine wp_region_lit ?_
   refine k9 U (.inc (k+1)<|.move rfl .nil) fun Y U =>?_
   refine wpList_nil ?_
   show ∃ n',n'<_∧_
   exact⟨b.length - (k+1),by omega,k+1,v,by omega,by omega,rfl,by rw[← hv];exact oF u k (b.getD k 0) hu,by rw[← hD,if_neg hno,if_neg (by omega),hv],U.only [0,4,10,11,12],aa.only [1,2]⟩
  intro ai U;try simp only [QQ,Qax] at ai
  refine k9 U (.sk<|.sk<|.pickF rfl rfl<|.move rfl<|.moveZ rfl<|.gtrZ rfl rfl<|.moveZ rfl .nil) fun Y U =>?_
  refine bc U 26 ?_ ?_
  ·
   intro ac U;try simp only [QQ,Qax] at ac
   refine gz hK5 U (.moveZ rfl<|.eqlZ rfl rfl<|.pickTZ rfl rfl<|.pickF rfl rfl<|.nil) fun Y U =>?_
   refine bc U 30 ?_ ?_
   ·
    intro ad U;try simp only [QQ,Qax] at ad
    have hE:dec 0 0 b=.err 20:=by rw[← hD,if_pos (by omega)]
    refine wct U ?_
    replace U:=U.oz [0,4,10,11,12,5,6,19,23,26,30]
    refine la U (.assign rfl<|.assign rfl .nil) fun Y U =>?_
    refine rt2 U ?_
    exact⟨0,_,_,b,_,rfl,.inr ⟨hE,rfl,rfl⟩,aa.ren [(1,1),(2,2)] (by decide)⟩
   intro ad U;try simp only [QQ,Qax] at ad
   have hno:¬ ((k=9∧1<(b.getD k 0))∨(0<k∧(b.getD k 0)=0)):=by omega
   have h9:k=9→(b.getD k 0)≤1:=by omega
   obtain⟨v,hv⟩:∃ v,u+((b.getD k 0) % 128).toNat*2 ^ (7*k)=v:=⟨_,rfl⟩
   refine wcf U ?_
   refine zss (hK4 _ _ ?_)
   replace U:=U.oz [0,4,10,11,12,5,6,19,23,26,30]
   refine la U (.move rfl<|.move rfl<|.c rfl (fun _ h_=>pg h_ rfl rfl (r:=(b.getD k 0) % 128) (oE _ hxb.1 hxb.2))<|.conv rfl U5 nb (r:=(b.getD k 0) % 128) (IntWalk.u64_in _ (by omega))<|.move rfl<|.mul rfl rfl (r:=7*(k:Int)) (IntWalk.i64_in _ (by omega))<|.shl rfl rfl (by omega) (r:=IntKind.u64.wrap ((b.getD k 0) % 128*2 ^ (7*k))) (by rw[shx hk9])<|.or rfl rfl (r:=(v:Int)) (by rw[← hv];exact pf u k (b.getD k 0) hu hk9 hxb.1 hxb.2 h9)<|.assign rfl .nil) fun Y U =>?_
   replace U:=U.oz [0,4,10,11,12,5,6,19,23,26,30]
   refine la U (.move rfl<|.lss rfl rfl .nil) fun Y U =>?_
   refine bc U 40 ?_ ?_
   ·
    intro ae U;try simp only [QQ,Qax] at ae
    have hO:dec 0 0 b=.ok v (k+1):=by rw[← hD,if_neg hno,if_pos (by omega),hv]
    refine wct U ?_
    refine zsr fun K8 hK8 =>?_
    refine k9 U (.move rfl<|.move rfl<|.nilCheck rfl<|.fa 0 rfl pP<|.lb aa 1 U22 rfl rfl rfl<|.move rfl<|.inc (k+1) .nil) fun Y U =>?_
    have aw:=aa.dropN (i:=2) rfl (k+1) (show k+1≤b.length by omega) 101 rfl
    refine k9 U (.c rfl (fun _ h_=>lK h_ (k+1) rfl rfl U22 mW rfl (show k+1≤b.length by omega))<|.nilCheck rfl<|.fa 0 rfl pP .nil) fun Y U =>?_
    refine plz (st1 U aw 1 oN fun aC aq _ =>?_)
    refine znl (hK8 _ _ ?_)
    replace U:=U.oz [0,4,10,11,12,19,23,26,30,40]
    refine la U (.move rfl<|.assign rfl<|.assign rfl .nil) fun Y U =>?_
    refine rt2 U ?_
    have hl9:b.length - (k+1)=(b.drop (k+1)).length:=by rw[List.length_drop]
    rw[hl9] at aq
    exact⟨v,_,_,b.drop (k+1),0,rfl,.inl ⟨_,hO,rfl,rfl⟩,aq.ren [(1,1),(2,101)] (by decide)⟩
   intro ae U;try simp only [QQ,Qax] at ae
   refine wcf U ?_
   refine zss (hK2 _ _ ?_)
   refine wp_region_lit ?_
   refine k9 U (.inc (k+1)<|.move rfl .nil) fun Y U =>?_
   refine wpList_nil ?_
   show ∃ n',n'<_∧_
   exact⟨b.length - (k+1),by omega,k+1,v,by omega,by omega,rfl,by rw[← hv];exact oF u k (b.getD k 0) hu,by rw[← hD,if_neg hno,if_neg (by omega),hv],U.only [0,4,10,11,12],aa.only [1,2]⟩
  intro ac U;try simp only [QQ,Qax] at ac
  have hno:¬ ((k=9∧1<(b.getD k 0))∨(0<k∧(b.getD k 0)=0)):=by omega
  have h9:k=9→(b.getD k 0)≤1:=by omega
  obtain⟨v,hv⟩:∃ v,u+((b.getD k 0) % 128).toNat*2 ^ (7*k)=v:=⟨_,rfl⟩
  refine gz hK5 U (.sk<|.sk<|.pickFZ rfl rfl<|.pickF rfl rfl<|.nil) fun Y U =>?_
  refine wcf U ?_
  refine zss (hK4 _ _ ?_)
  replace U:=U.oz [0,4,10,11,12,5,6,19,23,26,30]
  refine la U (.move rfl<|.move rfl<|.c rfl (fun _ h_=>pg h_ rfl rfl (r:=(b.getD k 0) % 128) (oE _ hxb.1 hxb.2))<|.conv rfl U5 nb (r:=(b.getD k 0) % 128) (IntWalk.u64_in _ (by omega))<|.move rfl<|.mul rfl rfl (r:=7*(k:Int)) (IntWalk.i64_in _ (by omega))<|.shl rfl rfl (by omega) (r:=IntKind.u64.wrap ((b.getD k 0) % 128*2 ^ (7*k))) (by rw[shx hk9])<|.or rfl rfl (r:=(v:Int)) (by rw[← hv];exact pf u k (b.getD k 0) hu hk9 hxb.1 hxb.2 h9)<|.assign rfl .nil) fun Y U =>?_
  replace U:=U.oz [0,4,10,11,12,5,6,19,23,26,30]
  refine la U (.move rfl<|.lss rfl rfl .nil) fun Y U =>?_
  refine bc U 40 ?_ ?_
  ·
   intro ag U;try simp only [QQ,Qax] at ag
   have hO:dec 0 0 b=.ok v (k+1):=by rw[← hD,if_neg hno,if_pos (by omega),hv]
   refine wct U ?_
   refine zsr fun K9 hK9 =>?_
   refine k9 U (.move rfl<|.move rfl<|.nilCheck rfl<|.fa 0 rfl pP<|.lb aa 1 U22 rfl rfl rfl<|.move rfl<|.inc (k+1) .nil) fun Y U =>?_
   have ax:=aa.dropN (i:=2) rfl (k+1) (show k+1≤b.length by omega) 101 rfl
   refine k9 U (.c rfl (fun _ h_=>lK h_ (k+1) rfl rfl U22 mW rfl (show k+1≤b.length by omega))<|.nilCheck rfl<|.fa 0 rfl pP .nil) fun Y U =>?_
   refine plz (st1 U ax 1 oN fun aD ar _ =>?_)
   refine znl (hK9 _ _ ?_)
   replace U:=U.oz [0,4,10,11,12,19,23,26,30,40]
   refine la U (.move rfl<|.assign rfl<|.assign rfl .nil) fun Y U =>?_
   refine rt2 U ?_
   have hl9:b.length - (k+1)=(b.drop (k+1)).length:=by rw[List.length_drop]
   rw[hl9] at ar
   exact⟨v,_,_,b.drop (k+1),0,rfl,.inl ⟨_,hO,rfl,rfl⟩,ar.ren [(1,1),(2,101)] (by decide)⟩
  intro ag U;try simp only [QQ,Qax] at ag
  refine wcf U ?_
  refine zss (hK2 _ _ ?_)
  refine wp_region_lit ?_
  refine k9 U (.inc (k+1)<|.move rfl .nil) fun Y U =>?_
  refine wpList_nil ?_
  show ∃ n',n'<_∧_
  exact⟨b.length - (k+1),by omega,k+1,v,by omega,by omega,rfl,by rw[← hv];exact oF u k (b.getD k 0) hu,by rw[← hD,if_neg hno,if_neg (by omega),hv],U.only [0,4,10,11,12],aa.only [1,2]⟩
 intro ah U;try simp only [QQ,Qax] at ah
 revert U
 obtain rfl:k=b.length:=by omega
 intro U
 have hE:dec 0 0 b=.err 21:=by rw[← hD0,List.drop_length];rfl
 refine wcf U ?_
 refine wp_exit ?_
 refine hK0 _ _ ?_
 refine la U (.assign rfl<|.assign rfl .nil) fun Y U =>?_
 refine rt2 U ?_
 exact⟨0,_,_,b,_,rfl,.inr ⟨hE,rfl,rfl⟩,ay.ren [(1,1),(2,2)] (by decide)⟩
theorem qd(X:Cx)(B:Nat)(b:List Int)(er:Int)(p:Option Addr)(c:Nat)(w0:World)(n j:Nat)(hb:b.length≤1000000)(hbb:lg b)(hd:dec 0 0 b=.ok n j)(m0:MemOk X w0 [(1,.box B 115 [.slice p (b).length c,.int .i64 er]),(2,.dat (.slice p (b).length c) (.ns .u8 (b)))] w0) :
   Calls Tryz.prog 96 #[.pointer (some ⟨B,0,none⟩)] w0 fun e w' => ∃ (p':Option Addr) (c':Nat),e=.returned (.tuple #[.int .u64 (n:Int),.int .i64 0])∧MemOk X w0 [(1,.box B 115 [.slice p' (b.drop j).length c',.int .i64 er]),(2,.dat (.slice p' (b.drop j).length c') (.ns .u8 (b.drop j)))] w':=by
 refine(rv X B b er p c w0 hb hbb m0).mono ?_
 rintro e w' ⟨n',p',c',r,e1,he,⟨j',h,rfl,rfl⟩|⟨h,_⟩,hm⟩
 · rw[hd] at h;injection h with q1 q2;subst q1;subst q2;exact⟨p',c',he,hm⟩
 rw[hd] at h;cases h
theorem sq(X:Cx)(B:Nat)(b:List Int)(er:Int)(p:Option Addr)(c:Nat)(w0:World)(er1:Int)(hb:b.length≤1000000)(hbb:lg b)(hd:dec 0 0 b=.err er1)(m0:MemOk X w0 [(1,.box B 115 [.slice p (b).length c,.int .i64 er]),(2,.dat (.slice p (b).length c) (.ns .u8 (b)))] w0) :
   Calls Tryz.prog 96 #[.pointer (some ⟨B,0,none⟩)] w0 fun e w' => ∃ (p':Option Addr) (c':Nat),e=.returned (.tuple #[.int .u64 0,.int .i64 er1])∧MemOk X w0 [(1,.box B 115 [.slice p' (b).length c',.int .i64 er]),(2,.dat (.slice p' (b).length c') (.ns .u8 (b)))] w':=by
 refine(rv X B b er p c w0 hb hbb m0).mono ?_
 rintro e w' ⟨n',p',c',r,e1,he,⟨j',h,_⟩|⟨h,rfl,rfl⟩,hm⟩
 · rw[hd] at h;cases h
 rw[hd] at h;injection h with q1;subst q1;exact⟨p',c',he,hm⟩
theorem wE(X:Cx)(B:Nat)(b:List Int)(er mx:Int)(p:Option Addr)(c:Nat)(w0:World)(hb:b.length≤1000000)(hbb:lg b)(he:er≠0)(m0:MemOk X w0 [(1,.box B 115 [.slice p (b).length c,.int .i64 er]),(2,.dat (.slice p (b).length c) (.ns .u8 (b)))] w0) :
   Calls Tryz.prog 59 #[.pointer (some ⟨B,0,none⟩),.int .u64 mx] w0 fun e w' => ∃ (p':Option Addr) (c':Nat),e=.returned (.int .u64 (lQ b er mx).1)∧MemOk X w0 [(1,.box B 115 [.slice p' ((lQ b er mx).2.1).length c',.int .i64 (lQ b er mx).2.2]),(2,.dat (.slice p' ((lQ b er mx).2.1).length c') (.ns .u8 ((lQ b er mx).2.1)))] w':=by
 have hN:lQ b er mx=(0,b,er):=wB b er mx he
 refine mR Tryz.func59 rfl Tryz.ntmps59 fun Y U =>?_
 refine la U (.assign rfl .nil) fun Y U =>?_
 refine wsk fun K0 hK0 =>?_
 refine la U (.move rfl<|.nilCheck rfl<|.fieldAddr (off:=0) rfl rA rfl (s:=1) (by kernel_rfl) rfl<|.fa 1 rfl pP<|.lb m0 1 U43 rfl rfl rfl<|.neq rfl rfl .nil) fun Y U =>?_
 refine bcP U 12 fun U =>?_
 refine wct U ?_
 replace U:=U.oz [0,1,4]
 refine la U (.assign rfl .nil) fun Y U =>?_
 refine rt1 U ?_
 rw[hN]
 exact⟨_,_,rfl,m0.ren [(1,1),(2,2)] (by decide)⟩
theorem wF(X:Cx)(B:Nat)(b:List Int)(mx:Int)(p:Option Addr)(c:Nat)(w0:World)(hb:b.length≤1000000)(hbb:lg b)(er1:Int)(hd:dec 0 0 b=.err er1)(m0:MemOk X w0 [(1,.box B 115 [.slice p (b).length c,.int .i64 0]),(2,.dat (.slice p (b).length c) (.ns .u8 (b)))] w0) :
   Calls Tryz.prog 59 #[.pointer (some ⟨B,0,none⟩),.int .u64 mx] w0 fun e w' => ∃ (p':Option Addr) (c':Nat),e=.returned (.int .u64 (lQ b 0 mx).1)∧MemOk X w0 [(1,.box B 115 [.slice p' ((lQ b 0 mx).2.1).length c',.int .i64 (lQ b 0 mx).2.2]),(2,.dat (.slice p' ((lQ b 0 mx).2.1).length c') (.ns .u8 ((lQ b 0 mx).2.1)))] w':=by
 have hN:lQ b 0 mx=(0,[],er1):=wv mx hd
 have he1:er1=20∨er1=21:=uZ b 0 0 er1 hd
 refine mR Tryz.func59 rfl Tryz.ntmps59 fun Y U =>?_
 refine la U (.assign rfl .nil) fun Y U =>?_
 refine wsk fun K0 hK0 =>?_
 refine la U (.move rfl<|.nilCheck rfl<|.fieldAddr (off:=0) rfl rA rfl (s:=1) (by kernel_rfl) rfl<|.fa 1 rfl pP<|.lb m0 1 U43 rfl rfl rfl<|.neq rfl rfl .nil) fun Y U =>?_
 refine bcF U 12 fun U =>?_
 refine wcf U ?_
 refine zss (hK0 _ _ ?_)
 replace U:=U.oz [0,1,4]
 refine zsr fun K1 hK1 =>?_
 refine k9 U (.move rfl<|.nilCheck rfl<|.fieldAddr (off:=0) rfl rA rfl (s:=1) (by kernel_rfl) rfl .nil) fun Y U =>?_
 refine plz (ecl U Tryz.func96 rfl (sq _ _ _ _ _ _ _ _ hb hbb hd (m0.into [(1,1),(2,2)] (by decide) rfl)) ?_)
 rintro e ai ⟨aj,ak,rfl,aa⟩
 have ac:=m0.back aa [(1,1),(2,2)] (by decide);clear aa m0
 have ad:=ac.oz [1,2]
 refine⟨_,rfl,?_⟩;intro Y U
 refine gz hK1 U (.move rfl<|.extract rfl rfl<|.extract rfl rfl<|.assign rfl<|.assign rfl<|.nil) fun Y U =>?_
 refine wsk fun K2 hK2 =>?_
 replace U:=U.oz [0,1,4,5,6]
 refine zsr fun K3 hK3 =>?_
 refine k9 U (.move rfl<|.eql rfl rfl<|.move rfl .nil) fun Y U =>?_
 refine bcO U 22 fun U =>?_
 refine gz hK3 U (.sk<|.sk<|.sk<|.pickF rfl rfl<|.nil) fun Y U =>?_
 refine wcf U ?_
 refine zss (hK2 _ _ ?_)
 refine wsk fun K4 hK4 =>?_
 replace U:=U.oz [0,4,5,6]
 refine la U (.move rfl<|.neq rfl rfl .nil) fun Y U =>?_
 refine bcP U 28 fun U =>?_
 refine wct U ?_
 refine zsr fun K5 hK5 =>?_
 refine k9 U (.move rfl<|.nilCheck rfl<|.fieldAddr (off:=0) rfl rA rfl (s:=1) (by kernel_rfl) rfl<|.move rfl .nil) fun Y U =>?_
 refine plz (ecl U Tryz.func97 rfl (u2 _ _ _ _ _ _ (ad.into [(1,1)] (by decide) rfl)) ?_)
 rintro e al ⟨rfl,ab⟩
 have ae:=ad.back ab [(1,1)] (by decide);clear ab ad
 have ag:=ae.oz [1,2]
 refine⟨_,rfl,?_⟩;intro Y U
 refine znl (hK5 _ _ ?_)
 replace U:=U.oz [4,5]
 refine la U (.assign rfl .nil) fun Y U =>?_
 refine rt1 U ?_
 have ah:=ag.dat 90 rfl (Rd.nilN _ _ .u8 none)
 rw[hN]
 exact⟨_,_,rfl,ah.ren [(1,1),(2,90)] (by decide)⟩
theorem u3(X:Cx)(B:Nat)(b:List Int)(mx:Int)(p:Option Addr)(c:Nat)(w0:World)(hb:b.length≤1000000)(hbb:lg b)(n j:Nat)(hd:dec 0 0 b=.ok n j)(hl:mx<n)(m0:MemOk X w0 [(1,.box B 115 [.slice p (b).length c,.int .i64 0]),(2,.dat (.slice p (b).length c) (.ns .u8 (b)))] w0) :
   Calls Tryz.prog 59 #[.pointer (some ⟨B,0,none⟩),.int .u64 mx] w0 fun e w' => ∃ (p':Option Addr) (c':Nat),e=.returned (.int .u64 (lQ b 0 mx).1)∧MemOk X w0 [(1,.box B 115 [.slice p' ((lQ b 0 mx).2.1).length c',.int .i64 (lQ b 0 mx).2.2]),(2,.dat (.slice p' ((lQ b 0 mx).2.1).length c') (.ns .u8 ((lQ b 0 mx).2.1)))] w':=by
 have hN:lQ b 0 mx=(0,[],22):=by rw[s4 mx hd,if_pos hl]
 refine mR Tryz.func59 rfl Tryz.ntmps59 fun Y U =>?_
 refine la U (.assign rfl .nil) fun Y U =>?_
 refine wsk fun K0 hK0 =>?_
 refine la U (.move rfl<|.nilCheck rfl<|.fieldAddr (off:=0) rfl rA rfl (s:=1) (by kernel_rfl) rfl<|.fa 1 rfl pP<|.lb m0 1 U43 rfl rfl rfl<|.neq rfl rfl .nil) fun Y U =>?_
 refine bcF U 12 fun U =>?_
 refine wcf U ?_
 refine zss (hK0 _ _ ?_)
 replace U:=U.oz [0,1,4]
 refine zsr fun K1 hK1 =>?_
 refine k9 U (.move rfl<|.nilCheck rfl<|.fieldAddr (off:=0) rfl rA rfl (s:=1) (by kernel_rfl) rfl .nil) fun Y U =>?_
 refine plz (ecl U Tryz.func96 rfl (qd _ _ _ _ _ _ _ _ _ hb hbb hd (m0.into [(1,1),(2,2)] (by decide) rfl)) ?_)
 rintro e ai ⟨aj,ak,rfl,aa⟩
 have ac:=m0.back aa [(1,1),(2,2)] (by decide);clear aa m0
 have ad:=ac.oz [1,2]
 refine⟨_,rfl,?_⟩;intro Y U
 refine gz hK1 U (.move rfl<|.extract rfl rfl<|.extract rfl rfl<|.assign rfl<|.assign rfl<|.nil) fun Y U =>?_
 refine wsk fun K2 hK2 =>?_
 replace U:=U.oz [0,1,4,5,6]
 refine zsr fun K3 hK3 =>?_
 refine k9 U (.move rfl<|.eql rfl rfl<|.move rfl .nil) fun Y U =>?_
 refine bcT U 22 fun U =>?_
 refine gz hK3 U (.moveZ rfl<|.moveZ rfl<|.gtrZ rfl rfl<|.pickT rfl rfl<|.nil) fun Y U =>?_
 refine bcP U 26 fun U =>?_
 refine wct U ?_
 replace U:=U.oz [0,4,5,6]
 refine wp_region_lit ?_
 refine gz hK2 U (.assign rfl .nil) fun Y U =>?_
 refine wsk fun K4 hK4 =>?_
 refine la U (.move rfl<|.neq rfl rfl .nil) fun Y U =>?_
 refine bcT U 28 fun U =>?_
 refine wct U ?_
 refine zsr fun K5 hK5 =>?_
 refine k9 U (.move rfl<|.nilCheck rfl<|.fieldAddr (off:=0) rfl rA rfl (s:=1) (by kernel_rfl) rfl<|.move rfl .nil) fun Y U =>?_
 refine plz (ecl U Tryz.func97 rfl (u2 _ _ _ _ _ _ (ad.into [(1,1)] (by decide) rfl)) ?_)
 rintro e al ⟨rfl,ab⟩
 have ae:=ad.back ab [(1,1)] (by decide);clear ab ad
 have ag:=ae.oz [1,2]
 refine⟨_,rfl,?_⟩;intro Y U
 refine znl (hK5 _ _ ?_)
 replace U:=U.oz [4,5]
 refine la U (.assign rfl .nil) fun Y U =>?_
 refine rt1 U ?_
 have ah:=ag.dat 90 rfl (Rd.nilN _ _ .u8 none)
 rw[hN]
 exact⟨_,_,rfl,ah.ren [(1,1),(2,90)] (by decide)⟩
theorem yO(X:Cx)(B:Nat)(b:List Int)(mx:Int)(p:Option Addr)(c:Nat)(w0:World)(hb:b.length≤1000000)(hbb:lg b)(n j:Nat)(hd:dec 0 0 b=.ok n j)(hl:(n:Int)≤mx)(m0:MemOk X w0 [(1,.box B 115 [.slice p (b).length c,.int .i64 0]),(2,.dat (.slice p (b).length c) (.ns .u8 (b)))] w0) :
   Calls Tryz.prog 59 #[.pointer (some ⟨B,0,none⟩),.int .u64 mx] w0 fun e w' => ∃ (p':Option Addr) (c':Nat),e=.returned (.int .u64 (lQ b 0 mx).1)∧MemOk X w0 [(1,.box B 115 [.slice p' ((lQ b 0 mx).2.1).length c',.int .i64 (lQ b 0 mx).2.2]),(2,.dat (.slice p' ((lQ b 0 mx).2.1).length c') (.ns .u8 ((lQ b 0 mx).2.1)))] w':=by
 have hN:lQ b 0 mx=((n:Int),b.drop j,0):=by rw[s4 mx hd,if_neg (by omega)]
 refine mR Tryz.func59 rfl Tryz.ntmps59 fun Y U =>?_
 refine la U (.assign rfl .nil) fun Y U =>?_
 refine wsk fun K0 hK0 =>?_
 refine la U (.move rfl<|.nilCheck rfl<|.fieldAddr (off:=0) rfl rA rfl (s:=1) (by kernel_rfl) rfl<|.fa 1 rfl pP<|.lb m0 1 U43 rfl rfl rfl<|.neq rfl rfl .nil) fun Y U =>?_
 refine bcF U 12 fun U =>?_
 refine wcf U ?_
 refine zss (hK0 _ _ ?_)
 replace U:=U.oz [0,1,4]
 refine zsr fun K1 hK1 =>?_
 refine k9 U (.move rfl<|.nilCheck rfl<|.fieldAddr (off:=0) rfl rA rfl (s:=1) (by kernel_rfl) rfl .nil) fun Y U =>?_
 refine plz (ecl U Tryz.func96 rfl (qd _ _ _ _ _ _ _ _ _ hb hbb hd (m0.into [(1,1),(2,2)] (by decide) rfl)) ?_)
 rintro e ad ⟨ae,ag,rfl,aa⟩
 have ab:=m0.back aa [(1,1),(2,2)] (by decide);clear aa m0
 have ac:=ab.oz [1,2]
 refine⟨_,rfl,?_⟩;intro Y U
 refine gz hK1 U (.move rfl<|.extract rfl rfl<|.extract rfl rfl<|.assign rfl<|.assign rfl<|.nil) fun Y U =>?_
 refine wsk fun K2 hK2 =>?_
 replace U:=U.oz [0,1,4,5,6]
 refine zsr fun K3 hK3 =>?_
 refine k9 U (.move rfl<|.eql rfl rfl<|.move rfl .nil) fun Y U =>?_
 refine bcT U 22 fun U =>?_
 refine gz hK3 U (.moveZ rfl<|.moveZ rfl<|.gtrZ rfl rfl<|.pickT rfl rfl<|.nil) fun Y U =>?_
 refine bcO U 26 fun U =>?_
 refine wcf U ?_
 refine zss (hK2 _ _ ?_)
 refine wsk fun K4 hK4 =>?_
 replace U:=U.oz [0,4,5,6]
 refine la U (.move rfl<|.neq rfl rfl .nil) fun Y U =>?_
 refine bcF U 28 fun U =>?_
 refine wcf U ?_
 refine zss (hK4 _ _ ?_)
 refine la U (.move rfl<|.assign rfl .nil) fun Y U =>?_
 refine rt1 U ?_
 rw[hN]
 exact⟨_,_,rfl,ac.ren [(1,1),(2,2)] (by decide)⟩
theorem zM(X:Cx)(B:Nat)(b:List Int)(er mx:Int)(p:Option Addr)(c:Nat)(w0:World)(hb:b.length≤1000000)(hbb:lg b)(m0:MemOk X w0 [(1,.box B 115 [.slice p (b).length c,.int .i64 er]),(2,.dat (.slice p (b).length c) (.ns .u8 (b)))] w0) :
   Calls Tryz.prog 59 #[.pointer (some ⟨B,0,none⟩),.int .u64 mx] w0 fun e w' => ∃ (p':Option Addr) (c':Nat),e=.returned (.int .u64 (lQ b er mx).1)∧MemOk X w0 [(1,.box B 115 [.slice p' ((lQ b er mx).2.1).length c',.int .i64 (lQ b er mx).2.2]),(2,.dat (.slice p' ((lQ b er mx).2.1).length c') (.ns .u8 ((lQ b er mx).2.1)))] w':=by
 by_cases he:er=0
 · subst he
   cases hd:dec 0 0 b with
   | err er1=>exact wF X B b mx p c w0 hb hbb er1 hd m0
   | ok n j =>
     by_cases hl:mx<n
     · exact u3 X B b mx p c w0 hb hbb n j hd hl m0
     exact yO X B b mx p c w0 hb hbb n j hd (by omega) m0
 exact wE X B b er mx p c w0 hb hbb he m0
end
section
theorem wG:lR Tryz.prog 113 [.slice none 0 0,.int .i64 0]=true:=by kernel_rfl
theorem wH:pj Tryz.prog 115=some [(0,2)]:=by kernel_rfl
theorem nr{b y:List Int}{er mx a er2:Int}(hN:lQ b er mx=(a,y,er2))(hbb:lg b)(hb:b.length≤1000000)(h0:0≤mx):(0≤a∧a≤mx)∧y.length≤b.length∧y.length≤1000000∧lg y∧∃ k,k≤b.length∧y=b.drop k:=by
 have h1:=yI b er mx h0
 have h2:=ww b er mx
 have h3:=wx b er mx
 have h4:=wD b er mx
 rw[hN] at h1 h2 h3 h4
 exact⟨h1,h2,Nat.le_trans h2 hb,fun x hx=>hbb x (h3 x hx),h4⟩
theorem sQ(X:Cx)(b:List Int)(p:Option Addr)(c:Nat)(w0:World)(hb:b.length≤1000000)(m0:MemOk X w0 [(1,.dat (.slice p b.length c) (.ns .u8 b))] w0) :
   Calls Tryz.prog 27 #[.slice p b.length c] w0 fun e w' => ∃ (B:Nat) (p':Option Addr) (c':Nat),e=.returned (.pointer (some ⟨B,0,none⟩))∧MemOk X w0 [(1,.box B 115 [.slice p' (b).length c',.int .i64 0]),(2,.dat (.slice p' (b).length c') (.ns .u8 (b))),(3,.dat (.slice p b.length c) (.ns .u8 b))] w':=by
 refine mp Tryz.func27 rfl Tryz.ntmps27 fun Y U =>?_
 refine la U (.assign rfl .nil) fun Y U =>?_
 refine zsr fun K0 hK0 =>?_
 refine k9 U (.move rfl .nil) fun Y U =>?_
 refine plz (lq U m0 20 (mm:=1) rfl (.cons rfl rfl (.cons (m0.rd (i:=1) rfl) .nil) .nil) U59 mG rfl rfl rfl rfl rfl fun g4 Y w5 U m5 =>?_)
 have m6:=m5.freezeR 20 rfl
 refine plz (ecn U Tryz.func38 rfl m6 21 (lB (ls:=[b]) (S:=b) ((m6.rd (i:=20) rfl).any) (by simp) (by simp [lD];omega) (by simp)) fun p7 c7 Y w7 U m8 =>?_)
 refine k9 U (.build rfl Aj wG rfl (by dsimp only [l9,List.set] <;> rfl)<|.buildG rfl Ak wH rfl .nil) fun Y U =>?_
 refine plz (ly U m8 22 (cs:=[_,_]) rfl rfl rfl fun ac Y ad U aa _ _ =>?_)
 refine gz hK0 U (.assign rfl .nil) fun Y U =>?_
 refine rt1 U ?_
 have ab:=aa.freezeN 21 rfl
 exact⟨_,_,_,rfl,ab.ren [(1,22),(2,21),(3,1)] (by decide)⟩
theorem yB(X:Cx)(B:Nat)(b:List Int)(er:Int)(p:Option Addr)(c:Nat)(w0:World)(m0:MemOk X w0 [(1,.box B 115 [.slice p (b).length c,.int .i64 er]),(2,.dat (.slice p (b).length c) (.ns .u8 (b)))] w0) :
   Calls Tryz.prog 30 #[.pointer (some ⟨B,0,none⟩)] w0 fun e w'=>e=.returned (.int .i64 (b.length:Int))∧MemOk X w0 [(1,.box B 115 [.slice p (b).length c,.int .i64 er]),(2,.dat (.slice p (b).length c) (.ns .u8 (b)))] w':=by
 refine mp Tryz.func30 rfl Tryz.ntmps30 fun Y U =>?_
 refine la U (.assign rfl .nil) fun Y U =>?_
 refine la U (.move rfl<|.nilCheck rfl<|.fieldAddr (off:=0) rfl rA rfl (s:=1) (by kernel_rfl) rfl<|.fa 0 rfl pP<|.lb m0 1 U22 rfl rfl rfl<|.len rfl U22<|.assign rfl .nil) fun Y U =>?_
 refine rt1 U ?_
 exact⟨rfl,m0.only [1,2]⟩
theorem ri(X:Cx)(B:Nat)(b:List Int)(er:Int)(p:Option Addr)(c:Nat)(w0:World)(m0:MemOk X w0 [(1,.box B 115 [.slice p (b).length c,.int .i64 er]),(2,.dat (.slice p (b).length c) (.ns .u8 (b)))] w0) :
   Calls Tryz.prog 61 #[.pointer (some ⟨B,0,none⟩)] w0 fun e w'=>e=.returned (.int .i64 er)∧MemOk X w0 [(1,.box B 115 [.slice p (b).length c,.int .i64 er]),(2,.dat (.slice p (b).length c) (.ns .u8 (b)))] w':=by
 refine mp Tryz.func61 rfl Tryz.ntmps61 fun Y U =>?_
 refine la U (.assign rfl .nil) fun Y U =>?_
 refine la U (.move rfl<|.nilCheck rfl<|.fieldAddr (off:=0) rfl rA rfl (s:=1) (by kernel_rfl) rfl<|.fa 1 rfl pP<|.lb m0 1 U43 rfl rfl rfl<|.assign rfl .nil) fun Y U =>?_
 refine rt1 U ?_
 exact⟨rfl,m0.only [1,2]⟩
theorem nY{b y:List Int}{er mx a er2:Int}(hN:lQ b er mx=(a,y,er2))(X:Cx)(B:Nat)(p:Option Addr)(c:Nat)(w0:World)(hb:b.length≤1000000)(hbb:lg b)(m0:MemOk X w0 [(1,.box B 115 [.slice p (b).length c,.int .i64 er]),(2,.dat (.slice p (b).length c) (.ns .u8 (b)))] w0) :
   Calls Tryz.prog 59 #[.pointer (some ⟨B,0,none⟩),.int .u64 mx] w0 fun e w' => ∃ (p':Option Addr) (c':Nat),e=.returned (.int .u64 a)∧MemOk X w0 [(1,.box B 115 [.slice p' (y).length c',.int .i64 er2]),(2,.dat (.slice p' (y).length c') (.ns .u8 (y)))] w':=by
 have h:=zM X B b er mx p c w0 hb hbb m0
 rw[hN] at h
 exact h
end
end Go.Proofs.YteglmahnkfgelaaGreat.K
