/- General laws of walks. -/
import Derived.Test.YtkehgingagggaaaGreatG16
import Derived.Test.YtkehgingagggaaaGreatG12
namespace Go.Proofs.YtkehgingagggaaaGreat.K
open Go.ChangeShapes Go.WideShapes Go.ChangeAt Go.RowKit
set_option linter.unusedVariables false
set_option linter.unusedSimpArgs false
section
set_option maxRecDepth 100000
set_option maxHeartbeats 4000000
theorem pfail_x (X : Cx) (B : Nat) (v : Value) (er cd : Int) (w0 : World) (m0 : MemOk X w0 [(1,.box B 148 [v,.int .i64 er])] w0) :
   Calls Tryz.prog 107 #[.pointer (some ⟨B,0,none⟩),.int .i64 cd] w0 fun e w' => e = .returned (.tuple #[]) ∧ MemOk X w0 [(1,.box B 148 [.slice none 0 0,.int .i64 cd])] w' := by
 refine ent2 Tryz.func107 rfl Tryz.ntmps107 fun Y U =>?_
 refine wp_region_lit ?_
 refine goCh U (.move rfl<|.move rfl<|.move rfl<|.nilCheck rfl<|.fa 0 rfl U146 .nil) fun Y U =>?_
 refine plz (st1 U m0 1 fct2 fun w6 m6 _ =>?_)
 refine goCh U (.nilCheck rfl<|.fa 1 rfl U146 .nil) fun Y U =>?_
 refine plz (st1 U m6 1 fct30 fun w9 m9 _ =>?_)
 refine wpList_nil ?_
 try dsimp only [Exit.then,Exit.inBlock]
 try refine out_here ?_
 refine (ret0 (fn := Tryz.f107) U rfl ?_)
 exact ⟨rfl,m9.only [1]⟩
theorem pnumber_ok (X : Cx) (B : Nat) (b : List Int) (er : Int) (p : Option Addr) (c : Nat) (w0 : World) (n j : Nat) (hb : b.length ≤ 1000000) (hbb : BytesL b) (hd : dec 0 0 b = .ok n j) (m0 : MemOk X w0 [(1,.box B 148 [.slice p (b).length c,.int .i64 er]),(2,.dat (.slice p (b).length c) (.ns .u8 (b)))] w0) :
   Calls Tryz.prog 106 #[.pointer (some ⟨B,0,none⟩)] w0 fun e w' => ∃ (p' : Option Addr) (c' : Nat),e = .returned (.tuple #[.int .u64 (n : Int),.int .i64 0]) ∧ MemOk X w0 [(1,.box B 148 [.slice p' (b.drop j).length c',.int .i64 er]),(2,.dat (.slice p' (b.drop j).length c') (.ns .u8 (b.drop j)))] w' := by
 refine ent1 Tryz.func106 rfl Tryz.ntmps106 fun Y U =>?_
 refine regS U (.assign rfl<|.assign rfl .nil) fun Y U =>?_
 refine regS U (.assign rfl .nil) fun Y U =>?_
 refine wsk fun K0 hK0 =>?_
 refine regS U (.move rfl<|.nilCheck rfl<|.fa 0 rfl U146<|.lb m0 1 U22 rfl rfl rfl<|.len rfl U22<|.move rfl .nil) fun Y U =>?_
 refine wp_block ?_
 refine wp_loop_ghost (fun g a w => ∃ (k u : Nat),k ≤ b.length ∧ k ≤ 9 ∧ g = b.length - k ∧ u < 2 ^ (7 * k) ∧ dec u k (b.drop k) = dec 0 0 b ∧ Has 53 [(0,.pointer (some ⟨B,0,none⟩)),(4,.int .u64 (u : Int)),(10,.slice p b.length c),(11,.int .i64 b.length),(12,.int .i64 k)] a ∧ MemOk X w0 [(1,.box B 148 [.slice p (b).length c,.int .i64 er]),(2,.dat (.slice p (b).length c) (.ns .u8 (b)))] w) (b.length) ?_ ?_
 · exact ⟨0,0,Nat.zero_le _,Nat.zero_le _,rfl,by decide,rfl,U.only [0,4,10,11,12],m0.only [1,2]⟩
 clear U m0
 rintro g Y w10 ⟨k,u,hkl,hk9,hg,hu,hD0,U,m10⟩
 refine regS U (.lss rfl rfl .nil) fun Y U =>?_
 refine wsk fun K1 hK1 =>?_
 refine bc U 13 ?_ ?_
 ·
  intro hb12 U; try simp only [QQ,Qax] at hb12
  have hk : k < b.length := by omega
  have hxb := getD_bd hbb hk
  have hD := hD0
  rw [dec_at hk] at hD
  refine wct U ?_
  refine zss (hK1 _ _ ?_)
  refine wsk fun K2 hK2 =>?_
  refine wp_block ?_
  refine zsr fun K3 hK3 =>?_
  refine goCh U (.move rfl .nil) fun Y U =>?_
  obtain ⟨b16,o16,hp16,m16⟩ := m10.openN (i := 2) rfl (k) hk 100 rfl
  revert U
  cases hp16
  intro U
  refine gz hK3 U (.c rfl (fun _ h_ => y_idx h_ rfl rfl U22 fct15 (k) rfl hk)<|.loadC0 m16 (i := 100) rfl rfl U5 rfl<|.assign rfl<|.assign rfl<|.nil) fun Y U =>?_
  refine wsk fun K4 hK4 =>?_
  refine zsr fun K5 hK5 =>?_
  refine goCh U (.move rfl<|.eql rfl rfl<|.move rfl .nil) fun Y U =>?_
  refine bc U 19 ?_ ?_
  ·
   intro hb27 U; try simp only [QQ,Qax] at hb27
   refine goCh U (.moveZ rfl<|.gtrZ rfl rfl<|.pickT rfl rfl<|.move rfl .nil) fun Y U =>?_
   refine bc U 23 ?_ ?_
   ·
    intro hb32 U; try simp only [QQ,Qax] at hb32
    have hE : dec 0 0 b = .err 20 := by rw [← hD,if_pos (by omega)]
    refine goCh U (.sk<|.sk<|.sk .nil) fun Y U =>?_
    refine st_skipU U rfl rfl rfl rfl fun Y U =>?_
    refine st_skipU U rfl rfl rfl rfl fun Y U =>?_
    refine gz hK5 U (.sk<|.pickT rfl rfl<|.nil) fun Y U =>?_
    refine wct U ?_
    replace U := U.oz [0,4,10,11,12,5,6,19,23,26,30]
    refine regS U (.assign rfl<|.assign rfl .nil) fun Y U =>?_
    refine rt2 U ?_
    rw [hE] at hd; cases hd
   intro hb32 U; try simp only [QQ,Qax] at hb32
   refine goCh U (.moveZ rfl<|.gtrZ rfl rfl<|.moveZ rfl .nil) fun Y U =>?_
   refine bc U 26 ?_ ?_
   ·
    intro hb46 U; try simp only [QQ,Qax] at hb46
    refine gz hK5 U (.moveZ rfl<|.eqlZ rfl rfl<|.pickTZ rfl rfl<|.pickF rfl rfl<|.nil) fun Y U =>?_
    refine bc U 30 ?_ ?_
    ·
     intro hb51 U; try simp only [QQ,Qax] at hb51
     have hE : dec 0 0 b = .err 20 := by rw [← hD,if_pos (by omega)]
     refine wct U ?_
     replace U := U.oz [0,4,10,11,12,5,6,19,23,26,30]
     refine regS U (.assign rfl<|.assign rfl .nil) fun Y U =>?_
     refine rt2 U ?_
     rw [hE] at hd; cases hd
    intro hb51 U; try simp only [QQ,Qax] at hb51
    have hno : ¬ ((k = 9 ∧ 1 < (b.getD k 0)) ∨ (0 < k ∧ (b.getD k 0) = 0)) := by omega
    have h9 : k = 9 → (b.getD k 0) ≤ 1 := by omega
    obtain ⟨v,hv⟩ : ∃ v,u + ((b.getD k 0) % 128).toNat * 2 ^ (7 * k) = v := ⟨_,rfl⟩
    refine wcf U ?_
    refine zss (hK4 _ _ ?_)
    replace U := U.oz [0,4,10,11,12,5,6,19,23,26,30]
    refine regS U (.move rfl<|.move rfl<|.c rfl (fun _ h_ => y_andNot h_ rfl rfl (r := (b.getD k 0) % 128) (andNot128 _ hxb.1 hxb.2))<|.conv rfl U5 U108 (r := (b.getD k 0) % 128) (IntWalk.u64_in _ (by omega))<|.move rfl<|.mul rfl rfl (r := 7 * (k : Int)) (IntWalk.i64_in _ (by omega))<|.shl rfl rfl (by omega) (r := IntKind.u64.wrap ((b.getD k 0) % 128 * 2 ^ (7 * k))) (by rw [shx hk9])<|.or rfl rfl (r := (v : Int)) (by rw [← hv]; exact or_shift u k (b.getD k 0) hu hk9 hxb.1 hxb.2 h9)<|.assign rfl .nil) fun Y U =>?_
    replace U := U.oz [0,4,10,11,12,5,6,19,23,26,30]
    refine regS U (.move rfl<|.lss rfl rfl .nil) fun Y U =>?_
    refine bc U 40 ?_ ?_
    ·
     intro hb68 U; try simp only [QQ,Qax] at hb68
     have hO : dec 0 0 b = .ok v (k + 1) := by rw [← hD,if_neg hno,if_pos (by omega),hv]
     refine wct U ?_
     refine zsr fun K6 hK6 =>?_
     refine goCh U (.move rfl<|.move rfl<|.nilCheck rfl<|.fa 0 rfl U146<|.lb m16 1 U22 rfl rfl rfl<|.move rfl<|.inc (k + 1) .nil) fun Y U =>?_
     have m84 := m16.dropN (i := 2) rfl (k + 1) (show k + 1 ≤ b.length by omega) 101 rfl
     refine goCh U (.c rfl (fun _ h_ => y_sliceLn h_ (k + 1) rfl rfl U22 fct15 rfl (show k + 1 ≤ b.length by omega))<|.nilCheck rfl<|.fa 0 rfl U146 .nil) fun Y U =>?_
     refine plz (st1 U m84 1 fct2 fun w88 m88 _ =>?_)
     refine znl (hK6 _ _ ?_)
     replace U := U.oz [0,4,10,11,12,19,23,26,30,40]
     refine regS U (.move rfl<|.assign rfl<|.assign rfl .nil) fun Y U =>?_
     refine rt2 U ?_
     have hl9 : b.length - (k + 1) = (b.drop (k + 1)).length := by rw [List.length_drop]
     rw [hl9] at m88
     obtain ⟨rfl,rfl⟩ : n = v ∧ j = k + 1 := by rw [hO] at hd; injection hd with q1 q2; exact ⟨q1.symm,q2.symm⟩
     exact ⟨_,_,rfl,m88.ren [(1,1),(2,101)] (by decide)⟩
    intro hb68 U; try simp only [QQ,Qax] at hb68
    refine wcf U ?_
    refine zss (hK2 _ _ ?_)
    refine wp_region_lit ?_
    refine goCh U (.inc (k + 1)<|.move rfl .nil) fun Y U =>?_
    refine wpList_nil ?_
    show ∃ n',n' < _ ∧ _
    exact ⟨b.length - (k + 1),by omega,k + 1,v,by omega,by omega,rfl,by rw [← hv]; exact acc_bound u k (b.getD k 0) hu,by rw [← hD,if_neg hno,if_neg (by omega),hv],U.only [0,4,10,11,12],m16.only [1,2]⟩
   intro hb46 U; try simp only [QQ,Qax] at hb46
   have hno : ¬ ((k = 9 ∧ 1 < (b.getD k 0)) ∨ (0 < k ∧ (b.getD k 0) = 0)) := by omega
   have h9 : k = 9 → (b.getD k 0) ≤ 1 := by omega
   obtain ⟨v,hv⟩ : ∃ v,u + ((b.getD k 0) % 128).toNat * 2 ^ (7 * k) = v := ⟨_,rfl⟩
   refine gz hK5 U (.sk<|.sk<|.pickFZ rfl rfl<|.pickF rfl rfl<|.nil) fun Y U =>?_
   refine wcf U ?_
   refine zss (hK4 _ _ ?_)
   replace U := U.oz [0,4,10,11,12,5,6,19,23,26,30]
   refine regS U (.move rfl<|.move rfl<|.c rfl (fun _ h_ => y_andNot h_ rfl rfl (r := (b.getD k 0) % 128) (andNot128 _ hxb.1 hxb.2))<|.conv rfl U5 U108 (r := (b.getD k 0) % 128) (IntWalk.u64_in _ (by omega))<|.move rfl<|.mul rfl rfl (r := 7 * (k : Int)) (IntWalk.i64_in _ (by omega))<|.shl rfl rfl (by omega) (r := IntKind.u64.wrap ((b.getD k 0) % 128 * 2 ^ (7 * k))) (by rw [shx hk9])<|.or rfl rfl (r := (v : Int)) (by rw [← hv]; exact or_shift u k (b.getD k 0) hu hk9 hxb.1 hxb.2 h9)<|.assign rfl .nil) fun Y U =>?_
   replace U := U.oz [0,4,10,11,12,5,6,19,23,26,30]
   refine regS U (.move rfl<|.lss rfl rfl .nil) fun Y U =>?_
   refine bc U 40 ?_ ?_
   ·
    intro hb112 U; try simp only [QQ,Qax] at hb112
    have hO : dec 0 0 b = .ok v (k + 1) := by rw [← hD,if_neg hno,if_pos (by omega),hv]
    refine wct U ?_
    refine zsr fun K7 hK7 =>?_
    refine goCh U (.move rfl<|.move rfl<|.nilCheck rfl<|.fa 0 rfl U146<|.lb m16 1 U22 rfl rfl rfl<|.move rfl<|.inc (k + 1) .nil) fun Y U =>?_
    have m128 := m16.dropN (i := 2) rfl (k + 1) (show k + 1 ≤ b.length by omega) 101 rfl
    refine goCh U (.c rfl (fun _ h_ => y_sliceLn h_ (k + 1) rfl rfl U22 fct15 rfl (show k + 1 ≤ b.length by omega))<|.nilCheck rfl<|.fa 0 rfl U146 .nil) fun Y U =>?_
    refine plz (st1 U m128 1 fct2 fun w132 m132 _ =>?_)
    refine znl (hK7 _ _ ?_)
    replace U := U.oz [0,4,10,11,12,19,23,26,30,40]
    refine regS U (.move rfl<|.assign rfl<|.assign rfl .nil) fun Y U =>?_
    refine rt2 U ?_
    have hl9 : b.length - (k + 1) = (b.drop (k + 1)).length := by rw [List.length_drop]
    rw [hl9] at m132
    obtain ⟨rfl,rfl⟩ : n = v ∧ j = k + 1 := by rw [hO] at hd; injection hd with q1 q2; exact ⟨q1.symm,q2.symm⟩
    exact ⟨_,_,rfl,m132.ren [(1,1),(2,101)] (by decide)⟩
   intro hb112 U; try simp only [QQ,Qax] at hb112
   refine wcf U ?_
   refine zss (hK2 _ _ ?_)
   refine wp_region_lit ?_
   refine goCh U (.inc (k + 1)<|.move rfl .nil) fun Y U =>?_
   refine wpList_nil ?_
   show ∃ n',n' < _ ∧ _
   exact ⟨b.length - (k + 1),by omega,k + 1,v,by omega,by omega,rfl,by rw [← hv]; exact acc_bound u k (b.getD k 0) hu,by rw [← hD,if_neg hno,if_neg (by omega),hv],U.only [0,4,10,11,12],m16.only [1,2]⟩
  intro hb27 U; try simp only [QQ,Qax] at hb27
  refine goCh U (.sk<|.sk<|.pickF rfl rfl<|.move rfl<|.moveZ rfl<|.gtrZ rfl rfl<|.moveZ rfl .nil) fun Y U =>?_
  refine bc U 26 ?_ ?_
  ·
   intro hb146 U; try simp only [QQ,Qax] at hb146
   refine gz hK5 U (.moveZ rfl<|.eqlZ rfl rfl<|.pickTZ rfl rfl<|.pickF rfl rfl<|.nil) fun Y U =>?_
   refine bc U 30 ?_ ?_
   ·
    intro hb151 U; try simp only [QQ,Qax] at hb151
    have hE : dec 0 0 b = .err 20 := by rw [← hD,if_pos (by omega)]
    refine wct U ?_
    replace U := U.oz [0,4,10,11,12,5,6,19,23,26,30]
    refine regS U (.assign rfl<|.assign rfl .nil) fun Y U =>?_
    refine rt2 U ?_
    rw [hE] at hd; cases hd
   intro hb151 U; try simp only [QQ,Qax] at hb151
   have hno : ¬ ((k = 9 ∧ 1 < (b.getD k 0)) ∨ (0 < k ∧ (b.getD k 0) = 0)) := by omega
   have h9 : k = 9 → (b.getD k 0) ≤ 1 := by omega
   obtain ⟨v,hv⟩ : ∃ v,u + ((b.getD k 0) % 128).toNat * 2 ^ (7 * k) = v := ⟨_,rfl⟩
   refine wcf U ?_
   refine zss (hK4 _ _ ?_)
   replace U := U.oz [0,4,10,11,12,5,6,19,23,26,30]
   refine regS U (.move rfl<|.move rfl<|.c rfl (fun _ h_ => y_andNot h_ rfl rfl (r := (b.getD k 0) % 128) (andNot128 _ hxb.1 hxb.2))<|.conv rfl U5 U108 (r := (b.getD k 0) % 128) (IntWalk.u64_in _ (by omega))<|.move rfl<|.mul rfl rfl (r := 7 * (k : Int)) (IntWalk.i64_in _ (by omega))<|.shl rfl rfl (by omega) (r := IntKind.u64.wrap ((b.getD k 0) % 128 * 2 ^ (7 * k))) (by rw [shx hk9])<|.or rfl rfl (r := (v : Int)) (by rw [← hv]; exact or_shift u k (b.getD k 0) hu hk9 hxb.1 hxb.2 h9)<|.assign rfl .nil) fun Y U =>?_
   replace U := U.oz [0,4,10,11,12,5,6,19,23,26,30]
   refine regS U (.move rfl<|.lss rfl rfl .nil) fun Y U =>?_
   refine bc U 40 ?_ ?_
   ·
    intro hb168 U; try simp only [QQ,Qax] at hb168
    have hO : dec 0 0 b = .ok v (k + 1) := by rw [← hD,if_neg hno,if_pos (by omega),hv]
    refine wct U ?_
    refine zsr fun K8 hK8 =>?_
    refine goCh U (.move rfl<|.move rfl<|.nilCheck rfl<|.fa 0 rfl U146<|.lb m16 1 U22 rfl rfl rfl<|.move rfl<|.inc (k + 1) .nil) fun Y U =>?_
    have m184 := m16.dropN (i := 2) rfl (k + 1) (show k + 1 ≤ b.length by omega) 101 rfl
    refine goCh U (.c rfl (fun _ h_ => y_sliceLn h_ (k + 1) rfl rfl U22 fct15 rfl (show k + 1 ≤ b.length by omega))<|.nilCheck rfl<|.fa 0 rfl U146 .nil) fun Y U =>?_
    refine plz (st1 U m184 1 fct2 fun w188 m188 _ =>?_)
    refine znl (hK8 _ _ ?_)
    replace U := U.oz [0,4,10,11,12,19,23,26,30,40]
    refine regS U (.move rfl<|.assign rfl<|.assign rfl .nil) fun Y U =>?_
    refine rt2 U ?_
    have hl9 : b.length - (k + 1) = (b.drop (k + 1)).length := by rw [List.length_drop]
    rw [hl9] at m188
    obtain ⟨rfl,rfl⟩ : n = v ∧ j = k + 1 := by rw [hO] at hd; injection hd with q1 q2; exact ⟨q1.symm,q2.symm⟩
    exact ⟨_,_,rfl,m188.ren [(1,1),(2,101)] (by decide)⟩
   intro hb168 U; try simp only [QQ,Qax] at hb168
   refine wcf U ?_
   refine zss (hK2 _ _ ?_)
   refine wp_region_lit ?_
   refine goCh U (.inc (k + 1)<|.move rfl .nil) fun Y U =>?_
   refine wpList_nil ?_
   show ∃ n',n' < _ ∧ _
   exact ⟨b.length - (k + 1),by omega,k + 1,v,by omega,by omega,rfl,by rw [← hv]; exact acc_bound u k (b.getD k 0) hu,by rw [← hD,if_neg hno,if_neg (by omega),hv],U.only [0,4,10,11,12],m16.only [1,2]⟩
  intro hb146 U; try simp only [QQ,Qax] at hb146
  have hno : ¬ ((k = 9 ∧ 1 < (b.getD k 0)) ∨ (0 < k ∧ (b.getD k 0) = 0)) := by omega
  have h9 : k = 9 → (b.getD k 0) ≤ 1 := by omega
  obtain ⟨v,hv⟩ : ∃ v,u + ((b.getD k 0) % 128).toNat * 2 ^ (7 * k) = v := ⟨_,rfl⟩
  refine gz hK5 U (.sk<|.sk<|.pickFZ rfl rfl<|.pickF rfl rfl<|.nil) fun Y U =>?_
  refine wcf U ?_
  refine zss (hK4 _ _ ?_)
  replace U := U.oz [0,4,10,11,12,5,6,19,23,26,30]
  refine regS U (.move rfl<|.move rfl<|.c rfl (fun _ h_ => y_andNot h_ rfl rfl (r := (b.getD k 0) % 128) (andNot128 _ hxb.1 hxb.2))<|.conv rfl U5 U108 (r := (b.getD k 0) % 128) (IntWalk.u64_in _ (by omega))<|.move rfl<|.mul rfl rfl (r := 7 * (k : Int)) (IntWalk.i64_in _ (by omega))<|.shl rfl rfl (by omega) (r := IntKind.u64.wrap ((b.getD k 0) % 128 * 2 ^ (7 * k))) (by rw [shx hk9])<|.or rfl rfl (r := (v : Int)) (by rw [← hv]; exact or_shift u k (b.getD k 0) hu hk9 hxb.1 hxb.2 h9)<|.assign rfl .nil) fun Y U =>?_
  replace U := U.oz [0,4,10,11,12,5,6,19,23,26,30]
  refine regS U (.move rfl<|.lss rfl rfl .nil) fun Y U =>?_
  refine bc U 40 ?_ ?_
  ·
   intro hb212 U; try simp only [QQ,Qax] at hb212
   have hO : dec 0 0 b = .ok v (k + 1) := by rw [← hD,if_neg hno,if_pos (by omega),hv]
   refine wct U ?_
   refine zsr fun K9 hK9 =>?_
   refine goCh U (.move rfl<|.move rfl<|.nilCheck rfl<|.fa 0 rfl U146<|.lb m16 1 U22 rfl rfl rfl<|.move rfl<|.inc (k + 1) .nil) fun Y U =>?_
   have m228 := m16.dropN (i := 2) rfl (k + 1) (show k + 1 ≤ b.length by omega) 101 rfl
   refine goCh U (.c rfl (fun _ h_ => y_sliceLn h_ (k + 1) rfl rfl U22 fct15 rfl (show k + 1 ≤ b.length by omega))<|.nilCheck rfl<|.fa 0 rfl U146 .nil) fun Y U =>?_
   refine plz (st1 U m228 1 fct2 fun w232 m232 _ =>?_)
   refine znl (hK9 _ _ ?_)
   replace U := U.oz [0,4,10,11,12,19,23,26,30,40]
   refine regS U (.move rfl<|.assign rfl<|.assign rfl .nil) fun Y U =>?_
   refine rt2 U ?_
   have hl9 : b.length - (k + 1) = (b.drop (k + 1)).length := by rw [List.length_drop]
   rw [hl9] at m232
   obtain ⟨rfl,rfl⟩ : n = v ∧ j = k + 1 := by rw [hO] at hd; injection hd with q1 q2; exact ⟨q1.symm,q2.symm⟩
   exact ⟨_,_,rfl,m232.ren [(1,1),(2,101)] (by decide)⟩
  intro hb212 U; try simp only [QQ,Qax] at hb212
  refine wcf U ?_
  refine zss (hK2 _ _ ?_)
  refine wp_region_lit ?_
  refine goCh U (.inc (k + 1)<|.move rfl .nil) fun Y U =>?_
  refine wpList_nil ?_
  show ∃ n',n' < _ ∧ _
  exact ⟨b.length - (k + 1),by omega,k + 1,v,by omega,by omega,rfl,by rw [← hv]; exact acc_bound u k (b.getD k 0) hu,by rw [← hD,if_neg hno,if_neg (by omega),hv],U.only [0,4,10,11,12],m16.only [1,2]⟩
 intro hb12 U; try simp only [QQ,Qax] at hb12
 revert U
 obtain rfl : k = b.length := by omega
 intro U
 have hE : dec 0 0 b = .err 21 := by rw [← hD0,List.drop_length]; rfl
 refine wcf U ?_
 refine wp_exit ?_
 refine hK0 _ _ ?_
 refine regS U (.assign rfl<|.assign rfl .nil) fun Y U =>?_
 refine rt2 U ?_
 rw [hE] at hd; cases hd
theorem pnumber_err (X : Cx) (B : Nat) (b : List Int) (er : Int) (p : Option Addr) (c : Nat) (w0 : World) (er1 : Int) (hb : b.length ≤ 1000000) (hbb : BytesL b) (hd : dec 0 0 b = .err er1) (m0 : MemOk X w0 [(1,.box B 148 [.slice p (b).length c,.int .i64 er]),(2,.dat (.slice p (b).length c) (.ns .u8 (b)))] w0) :
   Calls Tryz.prog 106 #[.pointer (some ⟨B,0,none⟩)] w0 fun e w' => e = .returned (.tuple #[.int .u64 0,.int .i64 er1]) ∧ MemOk X w0 [(1,.box B 148 [.slice p (b).length c,.int .i64 er]),(2,.dat (.slice p (b).length c) (.ns .u8 (b)))] w' := by
 refine ent1 Tryz.func106 rfl Tryz.ntmps106 fun Y U =>?_
 refine regS U (.assign rfl<|.assign rfl .nil) fun Y U =>?_
 refine regS U (.assign rfl .nil) fun Y U =>?_
 refine wsk fun K0 hK0 =>?_
 refine regS U (.move rfl<|.nilCheck rfl<|.fa 0 rfl U146<|.lb m0 1 U22 rfl rfl rfl<|.len rfl U22<|.move rfl .nil) fun Y U =>?_
 refine wp_block ?_
 refine wp_loop_ghost (fun g a w => ∃ (k u : Nat),k ≤ b.length ∧ k ≤ 9 ∧ g = b.length - k ∧ u < 2 ^ (7 * k) ∧ dec u k (b.drop k) = dec 0 0 b ∧ Has 53 [(0,.pointer (some ⟨B,0,none⟩)),(4,.int .u64 (u : Int)),(10,.slice p b.length c),(11,.int .i64 b.length),(12,.int .i64 k)] a ∧ MemOk X w0 [(1,.box B 148 [.slice p (b).length c,.int .i64 er]),(2,.dat (.slice p (b).length c) (.ns .u8 (b)))] w) (b.length) ?_ ?_
 · exact ⟨0,0,Nat.zero_le _,Nat.zero_le _,rfl,by decide,rfl,U.only [0,4,10,11,12],m0.only [1,2]⟩
 clear U m0
 rintro g Y w10 ⟨k,u,hkl,hk9,hg,hu,hD0,U,m10⟩
 refine regS U (.lss rfl rfl .nil) fun Y U =>?_
 refine wsk fun K1 hK1 =>?_
 refine bc U 13 ?_ ?_
 ·
  intro hb12 U; try simp only [QQ,Qax] at hb12
  have hk : k < b.length := by omega
  have hxb := getD_bd hbb hk
  have hD := hD0
  rw [dec_at hk] at hD
  refine wct U ?_
  refine zss (hK1 _ _ ?_)
  refine wsk fun K2 hK2 =>?_
  refine wp_block ?_
  refine zsr fun K3 hK3 =>?_
  refine goCh U (.move rfl .nil) fun Y U =>?_
  obtain ⟨b16,o16,hp16,m16⟩ := m10.openN (i := 2) rfl (k) hk 100 rfl
  revert U
  cases hp16
  intro U
  refine gz hK3 U (.c rfl (fun _ h_ => y_idx h_ rfl rfl U22 fct15 (k) rfl hk)<|.loadC0 m16 (i := 100) rfl rfl U5 rfl<|.assign rfl<|.assign rfl<|.nil) fun Y U =>?_
  refine wsk fun K4 hK4 =>?_
  refine zsr fun K5 hK5 =>?_
  refine goCh U (.move rfl<|.eql rfl rfl<|.move rfl .nil) fun Y U =>?_
  refine bc U 19 ?_ ?_
  ·
   intro hb27 U; try simp only [QQ,Qax] at hb27
   refine goCh U (.moveZ rfl<|.gtrZ rfl rfl<|.pickT rfl rfl<|.move rfl .nil) fun Y U =>?_
   refine bc U 23 ?_ ?_
   ·
    intro hb32 U; try simp only [QQ,Qax] at hb32
    have hE : dec 0 0 b = .err 20 := by rw [← hD,if_pos (by omega)]
    refine goCh U (.sk<|.sk<|.sk .nil) fun Y U =>?_
    refine st_skipU U rfl rfl rfl rfl fun Y U =>?_
    refine st_skipU U rfl rfl rfl rfl fun Y U =>?_
    refine gz hK5 U (.sk<|.pickT rfl rfl<|.nil) fun Y U =>?_
    refine wct U ?_
    replace U := U.oz [0,4,10,11,12,5,6,19,23,26,30]
    refine regS U (.assign rfl<|.assign rfl .nil) fun Y U =>?_
    refine rt2 U ?_
    rw [hE] at hd
    injection hd with hd
    revert U
    subst hd
    intro U
    exact ⟨rfl,m16.ren [(1,1),(2,2)] (by decide)⟩
   intro hb32 U; try simp only [QQ,Qax] at hb32
   refine goCh U (.moveZ rfl<|.gtrZ rfl rfl<|.moveZ rfl .nil) fun Y U =>?_
   refine bc U 26 ?_ ?_
   ·
    intro hb46 U; try simp only [QQ,Qax] at hb46
    refine gz hK5 U (.moveZ rfl<|.eqlZ rfl rfl<|.pickTZ rfl rfl<|.pickF rfl rfl<|.nil) fun Y U =>?_
    refine bc U 30 ?_ ?_
    ·
     intro hb51 U; try simp only [QQ,Qax] at hb51
     have hE : dec 0 0 b = .err 20 := by rw [← hD,if_pos (by omega)]
     refine wct U ?_
     replace U := U.oz [0,4,10,11,12,5,6,19,23,26,30]
     refine regS U (.assign rfl<|.assign rfl .nil) fun Y U =>?_
     refine rt2 U ?_
     rw [hE] at hd
     injection hd with hd
     revert U
     subst hd
     intro U
     exact ⟨rfl,m16.ren [(1,1),(2,2)] (by decide)⟩
    intro hb51 U; try simp only [QQ,Qax] at hb51
    have hno : ¬ ((k = 9 ∧ 1 < (b.getD k 0)) ∨ (0 < k ∧ (b.getD k 0) = 0)) := by omega
    have h9 : k = 9 → (b.getD k 0) ≤ 1 := by omega
    obtain ⟨v,hv⟩ : ∃ v,u + ((b.getD k 0) % 128).toNat * 2 ^ (7 * k) = v := ⟨_,rfl⟩
    refine wcf U ?_
    refine zss (hK4 _ _ ?_)
    replace U := U.oz [0,4,10,11,12,5,6,19,23,26,30]
    refine regS U (.move rfl<|.move rfl<|.c rfl (fun _ h_ => y_andNot h_ rfl rfl (r := (b.getD k 0) % 128) (andNot128 _ hxb.1 hxb.2))<|.conv rfl U5 U108 (r := (b.getD k 0) % 128) (IntWalk.u64_in _ (by omega))<|.move rfl<|.mul rfl rfl (r := 7 * (k : Int)) (IntWalk.i64_in _ (by omega))<|.shl rfl rfl (by omega) (r := IntKind.u64.wrap ((b.getD k 0) % 128 * 2 ^ (7 * k))) (by rw [shx hk9])<|.or rfl rfl (r := (v : Int)) (by rw [← hv]; exact or_shift u k (b.getD k 0) hu hk9 hxb.1 hxb.2 h9)<|.assign rfl .nil) fun Y U =>?_
    replace U := U.oz [0,4,10,11,12,5,6,19,23,26,30]
    refine regS U (.move rfl<|.lss rfl rfl .nil) fun Y U =>?_
    refine bc U 40 ?_ ?_
    ·
     intro hb68 U; try simp only [QQ,Qax] at hb68
     have hO : dec 0 0 b = .ok v (k + 1) := by rw [← hD,if_neg hno,if_pos (by omega),hv]
     refine wct U ?_
     refine zsr fun K6 hK6 =>?_
     refine goCh U (.move rfl<|.move rfl<|.nilCheck rfl<|.fa 0 rfl U146<|.lb m16 1 U22 rfl rfl rfl<|.move rfl<|.inc (k + 1) .nil) fun Y U =>?_
     have m84 := m16.dropN (i := 2) rfl (k + 1) (show k + 1 ≤ b.length by omega) 101 rfl
     refine goCh U (.c rfl (fun _ h_ => y_sliceLn h_ (k + 1) rfl rfl U22 fct15 rfl (show k + 1 ≤ b.length by omega))<|.nilCheck rfl<|.fa 0 rfl U146 .nil) fun Y U =>?_
     refine plz (st1 U m84 1 fct2 fun w88 m88 _ =>?_)
     refine znl (hK6 _ _ ?_)
     replace U := U.oz [0,4,10,11,12,19,23,26,30,40]
     refine regS U (.move rfl<|.assign rfl<|.assign rfl .nil) fun Y U =>?_
     refine rt2 U ?_
     rw [hO] at hd; cases hd
    intro hb68 U; try simp only [QQ,Qax] at hb68
    refine wcf U ?_
    refine zss (hK2 _ _ ?_)
    refine wp_region_lit ?_
    refine goCh U (.inc (k + 1)<|.move rfl .nil) fun Y U =>?_
    refine wpList_nil ?_
    show ∃ n',n' < _ ∧ _
    exact ⟨b.length - (k + 1),by omega,k + 1,v,by omega,by omega,rfl,by rw [← hv]; exact acc_bound u k (b.getD k 0) hu,by rw [← hD,if_neg hno,if_neg (by omega),hv],U.only [0,4,10,11,12],m16.only [1,2]⟩
   intro hb46 U; try simp only [QQ,Qax] at hb46
   have hno : ¬ ((k = 9 ∧ 1 < (b.getD k 0)) ∨ (0 < k ∧ (b.getD k 0) = 0)) := by omega
   have h9 : k = 9 → (b.getD k 0) ≤ 1 := by omega
   obtain ⟨v,hv⟩ : ∃ v,u + ((b.getD k 0) % 128).toNat * 2 ^ (7 * k) = v := ⟨_,rfl⟩
   refine gz hK5 U (.sk<|.sk<|.pickFZ rfl rfl<|.pickF rfl rfl<|.nil) fun Y U =>?_
   refine wcf U ?_
   refine zss (hK4 _ _ ?_)
   replace U := U.oz [0,4,10,11,12,5,6,19,23,26,30]
   refine regS U (.move rfl<|.move rfl<|.c rfl (fun _ h_ => y_andNot h_ rfl rfl (r := (b.getD k 0) % 128) (andNot128 _ hxb.1 hxb.2))<|.conv rfl U5 U108 (r := (b.getD k 0) % 128) (IntWalk.u64_in _ (by omega))<|.move rfl<|.mul rfl rfl (r := 7 * (k : Int)) (IntWalk.i64_in _ (by omega))<|.shl rfl rfl (by omega) (r := IntKind.u64.wrap ((b.getD k 0) % 128 * 2 ^ (7 * k))) (by rw [shx hk9])<|.or rfl rfl (r := (v : Int)) (by rw [← hv]; exact or_shift u k (b.getD k 0) hu hk9 hxb.1 hxb.2 h9)<|.assign rfl .nil) fun Y U =>?_
   replace U := U.oz [0,4,10,11,12,5,6,19,23,26,30]
   refine regS U (.move rfl<|.lss rfl rfl .nil) fun Y U =>?_
   refine bc U 40 ?_ ?_
   ·
    intro hb112 U; try simp only [QQ,Qax] at hb112
    have hO : dec 0 0 b = .ok v (k + 1) := by rw [← hD,if_neg hno,if_pos (by omega),hv]
    refine wct U ?_
    refine zsr fun K7 hK7 =>?_
    refine goCh U (.move rfl<|.move rfl<|.nilCheck rfl<|.fa 0 rfl U146<|.lb m16 1 U22 rfl rfl rfl<|.move rfl<|.inc (k + 1) .nil) fun Y U =>?_
    have m128 := m16.dropN (i := 2) rfl (k + 1) (show k + 1 ≤ b.length by omega) 101 rfl
    refine goCh U (.c rfl (fun _ h_ => y_sliceLn h_ (k + 1) rfl rfl U22 fct15 rfl (show k + 1 ≤ b.length by omega))<|.nilCheck rfl<|.fa 0 rfl U146 .nil) fun Y U =>?_
    refine plz (st1 U m128 1 fct2 fun w132 m132 _ =>?_)
    refine znl (hK7 _ _ ?_)
    replace U := U.oz [0,4,10,11,12,19,23,26,30,40]
    refine regS U (.move rfl<|.assign rfl<|.assign rfl .nil) fun Y U =>?_
    refine rt2 U ?_
    rw [hO] at hd; cases hd
   intro hb112 U; try simp only [QQ,Qax] at hb112
   refine wcf U ?_
   refine zss (hK2 _ _ ?_)
   refine wp_region_lit ?_
   refine goCh U (.inc (k + 1)<|.move rfl .nil) fun Y U =>?_
   refine wpList_nil ?_
   show ∃ n',n' < _ ∧ _
   exact ⟨b.length - (k + 1),by omega,k + 1,v,by omega,by omega,rfl,by rw [← hv]; exact acc_bound u k (b.getD k 0) hu,by rw [← hD,if_neg hno,if_neg (by omega),hv],U.only [0,4,10,11,12],m16.only [1,2]⟩
  intro hb27 U; try simp only [QQ,Qax] at hb27
  refine goCh U (.sk<|.sk<|.pickF rfl rfl<|.move rfl<|.moveZ rfl<|.gtrZ rfl rfl<|.moveZ rfl .nil) fun Y U =>?_
  refine bc U 26 ?_ ?_
  ·
   intro hb146 U; try simp only [QQ,Qax] at hb146
   refine gz hK5 U (.moveZ rfl<|.eqlZ rfl rfl<|.pickTZ rfl rfl<|.pickF rfl rfl<|.nil) fun Y U =>?_
   refine bc U 30 ?_ ?_
   ·
    intro hb151 U; try simp only [QQ,Qax] at hb151
    have hE : dec 0 0 b = .err 20 := by rw [← hD,if_pos (by omega)]
    refine wct U ?_
    replace U := U.oz [0,4,10,11,12,5,6,19,23,26,30]
    refine regS U (.assign rfl<|.assign rfl .nil) fun Y U =>?_
    refine rt2 U ?_
    rw [hE] at hd
    injection hd with hd
    revert U
    subst hd
    intro U
    exact ⟨rfl,m16.ren [(1,1),(2,2)] (by decide)⟩
   intro hb151 U; try simp only [QQ,Qax] at hb151
   have hno : ¬ ((k = 9 ∧ 1 < (b.getD k 0)) ∨ (0 < k ∧ (b.getD k 0) = 0)) := by omega
   have h9 : k = 9 → (b.getD k 0) ≤ 1 := by omega
   obtain ⟨v,hv⟩ : ∃ v,u + ((b.getD k 0) % 128).toNat * 2 ^ (7 * k) = v := ⟨_,rfl⟩
   refine wcf U ?_
   refine zss (hK4 _ _ ?_)
   replace U := U.oz [0,4,10,11,12,5,6,19,23,26,30]
   refine regS U (.move rfl<|.move rfl<|.c rfl (fun _ h_ => y_andNot h_ rfl rfl (r := (b.getD k 0) % 128) (andNot128 _ hxb.1 hxb.2))<|.conv rfl U5 U108 (r := (b.getD k 0) % 128) (IntWalk.u64_in _ (by omega))<|.move rfl<|.mul rfl rfl (r := 7 * (k : Int)) (IntWalk.i64_in _ (by omega))<|.shl rfl rfl (by omega) (r := IntKind.u64.wrap ((b.getD k 0) % 128 * 2 ^ (7 * k))) (by rw [shx hk9])<|.or rfl rfl (r := (v : Int)) (by rw [← hv]; exact or_shift u k (b.getD k 0) hu hk9 hxb.1 hxb.2 h9)<|.assign rfl .nil) fun Y U =>?_
   replace U := U.oz [0,4,10,11,12,5,6,19,23,26,30]
   refine regS U (.move rfl<|.lss rfl rfl .nil) fun Y U =>?_
   refine bc U 40 ?_ ?_
   ·
    intro hb168 U; try simp only [QQ,Qax] at hb168
    have hO : dec 0 0 b = .ok v (k + 1) := by rw [← hD,if_neg hno,if_pos (by omega),hv]
    refine wct U ?_
    refine zsr fun K8 hK8 =>?_
    refine goCh U (.move rfl<|.move rfl<|.nilCheck rfl<|.fa 0 rfl U146<|.lb m16 1 U22 rfl rfl rfl<|.move rfl<|.inc (k + 1) .nil) fun Y U =>?_
    have m184 := m16.dropN (i := 2) rfl (k + 1) (show k + 1 ≤ b.length by omega) 101 rfl
    refine goCh U (.c rfl (fun _ h_ => y_sliceLn h_ (k + 1) rfl rfl U22 fct15 rfl (show k + 1 ≤ b.length by omega))<|.nilCheck rfl<|.fa 0 rfl U146 .nil) fun Y U =>?_
    refine plz (st1 U m184 1 fct2 fun w188 m188 _ =>?_)
    refine znl (hK8 _ _ ?_)
    replace U := U.oz [0,4,10,11,12,19,23,26,30,40]
    refine regS U (.move rfl<|.assign rfl<|.assign rfl .nil) fun Y U =>?_
    refine rt2 U ?_
    rw [hO] at hd; cases hd
   intro hb168 U; try simp only [QQ,Qax] at hb168
   refine wcf U ?_
   refine zss (hK2 _ _ ?_)
   refine wp_region_lit ?_
   refine goCh U (.inc (k + 1)<|.move rfl .nil) fun Y U =>?_
   refine wpList_nil ?_
   show ∃ n',n' < _ ∧ _
   exact ⟨b.length - (k + 1),by omega,k + 1,v,by omega,by omega,rfl,by rw [← hv]; exact acc_bound u k (b.getD k 0) hu,by rw [← hD,if_neg hno,if_neg (by omega),hv],U.only [0,4,10,11,12],m16.only [1,2]⟩
  intro hb146 U; try simp only [QQ,Qax] at hb146
  have hno : ¬ ((k = 9 ∧ 1 < (b.getD k 0)) ∨ (0 < k ∧ (b.getD k 0) = 0)) := by omega
  have h9 : k = 9 → (b.getD k 0) ≤ 1 := by omega
  obtain ⟨v,hv⟩ : ∃ v,u + ((b.getD k 0) % 128).toNat * 2 ^ (7 * k) = v := ⟨_,rfl⟩
  refine gz hK5 U (.sk<|.sk<|.pickFZ rfl rfl<|.pickF rfl rfl<|.nil) fun Y U =>?_
  refine wcf U ?_
  refine zss (hK4 _ _ ?_)
  replace U := U.oz [0,4,10,11,12,5,6,19,23,26,30]
  refine regS U (.move rfl<|.move rfl<|.c rfl (fun _ h_ => y_andNot h_ rfl rfl (r := (b.getD k 0) % 128) (andNot128 _ hxb.1 hxb.2))<|.conv rfl U5 U108 (r := (b.getD k 0) % 128) (IntWalk.u64_in _ (by omega))<|.move rfl<|.mul rfl rfl (r := 7 * (k : Int)) (IntWalk.i64_in _ (by omega))<|.shl rfl rfl (by omega) (r := IntKind.u64.wrap ((b.getD k 0) % 128 * 2 ^ (7 * k))) (by rw [shx hk9])<|.or rfl rfl (r := (v : Int)) (by rw [← hv]; exact or_shift u k (b.getD k 0) hu hk9 hxb.1 hxb.2 h9)<|.assign rfl .nil) fun Y U =>?_
  replace U := U.oz [0,4,10,11,12,5,6,19,23,26,30]
  refine regS U (.move rfl<|.lss rfl rfl .nil) fun Y U =>?_
  refine bc U 40 ?_ ?_
  ·
   intro hb212 U; try simp only [QQ,Qax] at hb212
   have hO : dec 0 0 b = .ok v (k + 1) := by rw [← hD,if_neg hno,if_pos (by omega),hv]
   refine wct U ?_
   refine zsr fun K9 hK9 =>?_
   refine goCh U (.move rfl<|.move rfl<|.nilCheck rfl<|.fa 0 rfl U146<|.lb m16 1 U22 rfl rfl rfl<|.move rfl<|.inc (k + 1) .nil) fun Y U =>?_
   have m228 := m16.dropN (i := 2) rfl (k + 1) (show k + 1 ≤ b.length by omega) 101 rfl
   refine goCh U (.c rfl (fun _ h_ => y_sliceLn h_ (k + 1) rfl rfl U22 fct15 rfl (show k + 1 ≤ b.length by omega))<|.nilCheck rfl<|.fa 0 rfl U146 .nil) fun Y U =>?_
   refine plz (st1 U m228 1 fct2 fun w232 m232 _ =>?_)
   refine znl (hK9 _ _ ?_)
   replace U := U.oz [0,4,10,11,12,19,23,26,30,40]
   refine regS U (.move rfl<|.assign rfl<|.assign rfl .nil) fun Y U =>?_
   refine rt2 U ?_
   rw [hO] at hd; cases hd
  intro hb212 U; try simp only [QQ,Qax] at hb212
  refine wcf U ?_
  refine zss (hK2 _ _ ?_)
  refine wp_region_lit ?_
  refine goCh U (.inc (k + 1)<|.move rfl .nil) fun Y U =>?_
  refine wpList_nil ?_
  show ∃ n',n' < _ ∧ _
  exact ⟨b.length - (k + 1),by omega,k + 1,v,by omega,by omega,rfl,by rw [← hv]; exact acc_bound u k (b.getD k 0) hu,by rw [← hD,if_neg hno,if_neg (by omega),hv],U.only [0,4,10,11,12],m16.only [1,2]⟩
 intro hb12 U; try simp only [QQ,Qax] at hb12
 revert U
 obtain rfl : k = b.length := by omega
 intro U
 have hE : dec 0 0 b = .err 21 := by rw [← hD0,List.drop_length]; rfl
 refine wcf U ?_
 refine wp_exit ?_
 refine hK0 _ _ ?_
 refine regS U (.assign rfl<|.assign rfl .nil) fun Y U =>?_
 refine rt2 U ?_
 rw [hE] at hd
 injection hd with hd
 revert U
 subst hd
 intro U
 exact ⟨rfl,m10.ren [(1,1),(2,2)] (by decide)⟩
theorem pnum_bad (X : Cx) (B : Nat) (b : List Int) (er mx : Int) (p : Option Addr) (c : Nat) (w0 : World) (hb : b.length ≤ 1000000) (hbb : BytesL b) (he : er ≠ 0) (m0 : MemOk X w0 [(1,.box B 148 [.slice p (b).length c,.int .i64 er]),(2,.dat (.slice p (b).length c) (.ns .u8 (b)))] w0) :
   Calls Tryz.prog 60 #[.pointer (some ⟨B,0,none⟩),.int .u64 mx] w0 fun e w' => ∃ (p' : Option Addr) (c' : Nat),e = .returned (.int .u64 (numR b er mx).1) ∧ MemOk X w0 [(1,.box B 148 [.slice p' ((numR b er mx).2.1).length c',.int .i64 (numR b er mx).2.2]),(2,.dat (.slice p' ((numR b er mx).2.1).length c') (.ns .u8 ((numR b er mx).2.1)))] w' := by
 have hN : numR b er mx = (0,b,er) := numR_bad b er mx he
 refine ent2 Tryz.func60 rfl Tryz.ntmps60 fun Y U =>?_
 refine regS U (.assign rfl .nil) fun Y U =>?_
 refine wsk fun K0 hK0 =>?_
 refine regS U (.move rfl<|.nilCheck rfl<|.fieldAddr (off := 0) rfl U148 rfl (s := 1) (by kernel_rfl) rfl<|.fa 1 rfl U146<|.lb m0 1 U42 rfl rfl rfl<|.neq rfl rfl .nil) fun Y U =>?_
 refine bc U 12 ?_ ?_
 rotate_left
 · intro hb _; exact absurd hb (by simp; omega)
 clear U; intro _ U
 refine wct U ?_
 replace U := U.oz [0,1,4]
 refine regS U (.assign rfl .nil) fun Y U =>?_
 refine rt1 U ?_
 rw [hN]
 exact ⟨_,_,rfl,m0.ren [(1,1),(2,2)] (by decide)⟩
theorem pnum_err (X : Cx) (B : Nat) (b : List Int) (mx : Int) (p : Option Addr) (c : Nat) (w0 : World) (hb : b.length ≤ 1000000) (hbb : BytesL b) (er1 : Int) (hd : dec 0 0 b = .err er1) (m0 : MemOk X w0 [(1,.box B 148 [.slice p (b).length c,.int .i64 0]),(2,.dat (.slice p (b).length c) (.ns .u8 (b)))] w0) :
   Calls Tryz.prog 60 #[.pointer (some ⟨B,0,none⟩),.int .u64 mx] w0 fun e w' => ∃ (p' : Option Addr) (c' : Nat),e = .returned (.int .u64 (numR b 0 mx).1) ∧ MemOk X w0 [(1,.box B 148 [.slice p' ((numR b 0 mx).2.1).length c',.int .i64 (numR b 0 mx).2.2]),(2,.dat (.slice p' ((numR b 0 mx).2.1).length c') (.ns .u8 ((numR b 0 mx).2.1)))] w' := by
 have hN : numR b 0 mx = (0,[],er1) := numR_err mx hd
 have he1 : er1 = 20 ∨ er1 = 21 := dec_err b 0 0 er1 hd
 refine ent2 Tryz.func60 rfl Tryz.ntmps60 fun Y U =>?_
 refine regS U (.assign rfl .nil) fun Y U =>?_
 refine wsk fun K0 hK0 =>?_
 refine regS U (.move rfl<|.nilCheck rfl<|.fieldAddr (off := 0) rfl U148 rfl (s := 1) (by kernel_rfl) rfl<|.fa 1 rfl U146<|.lb m0 1 U42 rfl rfl rfl<|.neq rfl rfl .nil) fun Y U =>?_
 refine bc U 12 ?_ ?_
 · intro hb _; exact absurd hb (by simp)
 clear U; intro _ U
 refine wcf U ?_
 refine zss (hK0 _ _ ?_)
 replace U := U.oz [0,1,4]
 refine zsr fun K1 hK1 =>?_
 refine goCh U (.move rfl<|.nilCheck rfl<|.fieldAddr (off := 0) rfl U148 rfl (s := 1) (by kernel_rfl) rfl .nil) fun Y U =>?_
 refine plz (ecl U Tryz.func106 rfl (pnumber_err _ _ _ _ _ _ _ _ hb hbb hd (m0.into [(1,1),(2,2)] (by decide) rfl)) ?_)
 rintro e w16 ⟨rfl,hm16⟩
 have mx16 := m0.back hm16 [(1,1),(2,2)] (by decide); clear hm16 m0
 have m16 := mx16.oz [1,2]
 refine ⟨_,rfl,?_⟩; intro Y U
 refine gz hK1 U (.move rfl<|.extract rfl rfl<|.extract rfl rfl<|.assign rfl<|.assign rfl<|.nil) fun Y U =>?_
 refine wsk fun K2 hK2 =>?_
 replace U := U.oz [0,1,4,5,6]
 refine zsr fun K3 hK3 =>?_
 refine goCh U (.move rfl<|.eql rfl rfl<|.move rfl .nil) fun Y U =>?_
 refine bc U 22 ?_ ?_
 · intro hb _; exact absurd hb (by simp; omega)
 clear U; intro _ U
 refine gz hK3 U (.sk<|.sk<|.sk<|.pickF rfl rfl<|.nil) fun Y U =>?_
 refine wcf U ?_
 refine zss (hK2 _ _ ?_)
 refine wsk fun K4 hK4 =>?_
 replace U := U.oz [0,4,5,6]
 refine regS U (.move rfl<|.neq rfl rfl .nil) fun Y U =>?_
 refine bc U 28 ?_ ?_
 rotate_left
 · intro hb _; exact absurd hb (by simp; omega)
 clear U; intro _ U
 refine wct U ?_
 refine zsr fun K5 hK5 =>?_
 refine goCh U (.move rfl<|.nilCheck rfl<|.fieldAddr (off := 0) rfl U148 rfl (s := 1) (by kernel_rfl) rfl<|.move rfl .nil) fun Y U =>?_
 refine plz (ecl U Tryz.func107 rfl (pfail_x _ _ _ _ _ _ (m16.into [(1,1)] (by decide) rfl)) ?_)
 rintro e w47 ⟨rfl,hm47⟩
 have mx47 := m16.back hm47 [(1,1)] (by decide); clear hm47 m16
 have m47 := mx47.oz [1,2]
 refine ⟨_,rfl,?_⟩; intro Y U
 refine znl (hK5 _ _ ?_)
 replace U := U.oz [4,5]
 refine regS U (.assign rfl .nil) fun Y U =>?_
 refine rt1 U ?_
 have m51 := m47.dat 90 rfl (Rd.nilN _ _ .u8 none)
 rw [hN]
 exact ⟨_,_,rfl,m51.ren [(1,1),(2,90)] (by decide)⟩
theorem pnum_long (X : Cx) (B : Nat) (b : List Int) (mx : Int) (p : Option Addr) (c : Nat) (w0 : World) (hb : b.length ≤ 1000000) (hbb : BytesL b) (n j : Nat) (hd : dec 0 0 b = .ok n j) (hl : mx < n) (m0 : MemOk X w0 [(1,.box B 148 [.slice p (b).length c,.int .i64 0]),(2,.dat (.slice p (b).length c) (.ns .u8 (b)))] w0) :
   Calls Tryz.prog 60 #[.pointer (some ⟨B,0,none⟩),.int .u64 mx] w0 fun e w' => ∃ (p' : Option Addr) (c' : Nat),e = .returned (.int .u64 (numR b 0 mx).1) ∧ MemOk X w0 [(1,.box B 148 [.slice p' ((numR b 0 mx).2.1).length c',.int .i64 (numR b 0 mx).2.2]),(2,.dat (.slice p' ((numR b 0 mx).2.1).length c') (.ns .u8 ((numR b 0 mx).2.1)))] w' := by
 have hN : numR b 0 mx = (0,[],22) := by rw [numR_val mx hd,if_pos hl]
 refine ent2 Tryz.func60 rfl Tryz.ntmps60 fun Y U =>?_
 refine regS U (.assign rfl .nil) fun Y U =>?_
 refine wsk fun K0 hK0 =>?_
 refine regS U (.move rfl<|.nilCheck rfl<|.fieldAddr (off := 0) rfl U148 rfl (s := 1) (by kernel_rfl) rfl<|.fa 1 rfl U146<|.lb m0 1 U42 rfl rfl rfl<|.neq rfl rfl .nil) fun Y U =>?_
 refine bc U 12 ?_ ?_
 · intro hb _; exact absurd hb (by simp)
 clear U; intro _ U
 refine wcf U ?_
 refine zss (hK0 _ _ ?_)
 replace U := U.oz [0,1,4]
 refine zsr fun K1 hK1 =>?_
 refine goCh U (.move rfl<|.nilCheck rfl<|.fieldAddr (off := 0) rfl U148 rfl (s := 1) (by kernel_rfl) rfl .nil) fun Y U =>?_
 refine plz (ecl U Tryz.func106 rfl (pnumber_ok _ _ _ _ _ _ _ _ _ hb hbb hd (m0.into [(1,1),(2,2)] (by decide) rfl)) ?_)
 rintro e w16 ⟨p16,c16,rfl,hm16⟩
 have mx16 := m0.back hm16 [(1,1),(2,2)] (by decide); clear hm16 m0
 have m16 := mx16.oz [1,2]
 refine ⟨_,rfl,?_⟩; intro Y U
 refine gz hK1 U (.move rfl<|.extract rfl rfl<|.extract rfl rfl<|.assign rfl<|.assign rfl<|.nil) fun Y U =>?_
 refine wsk fun K2 hK2 =>?_
 replace U := U.oz [0,1,4,5,6]
 refine zsr fun K3 hK3 =>?_
 refine goCh U (.move rfl<|.eql rfl rfl<|.move rfl .nil) fun Y U =>?_
 refine bc U 22 ?_ ?_
 rotate_left
 · intro hb _; exact absurd hb (by simp)
 clear U; intro _ U
 refine gz hK3 U (.moveZ rfl<|.moveZ rfl<|.gtrZ rfl rfl<|.pickT rfl rfl<|.nil) fun Y U =>?_
 refine bc U 26 ?_ ?_
 rotate_left
 · intro hb _; exact absurd hb (by simp; omega)
 clear U; intro _ U
 refine wct U ?_
 replace U := U.oz [0,4,5,6]
 refine wp_region_lit ?_
 refine gz hK2 U (.assign rfl .nil) fun Y U =>?_
 refine wsk fun K4 hK4 =>?_
 refine regS U (.move rfl<|.neq rfl rfl .nil) fun Y U =>?_
 refine bc U 28 ?_ ?_
 rotate_left
 · intro hb _; exact absurd hb (by simp)
 clear U; intro _ U
 refine wct U ?_
 refine zsr fun K5 hK5 =>?_
 refine goCh U (.move rfl<|.nilCheck rfl<|.fieldAddr (off := 0) rfl U148 rfl (s := 1) (by kernel_rfl) rfl<|.move rfl .nil) fun Y U =>?_
 refine plz (ecl U Tryz.func107 rfl (pfail_x _ _ _ _ _ _ (m16.into [(1,1)] (by decide) rfl)) ?_)
 rintro e w49 ⟨rfl,hm49⟩
 have mx49 := m16.back hm49 [(1,1)] (by decide); clear hm49 m16
 have m49 := mx49.oz [1,2]
 refine ⟨_,rfl,?_⟩; intro Y U
 refine znl (hK5 _ _ ?_)
 replace U := U.oz [4,5]
 refine regS U (.assign rfl .nil) fun Y U =>?_
 refine rt1 U ?_
 have m53 := m49.dat 90 rfl (Rd.nilN _ _ .u8 none)
 rw [hN]
 exact ⟨_,_,rfl,m53.ren [(1,1),(2,90)] (by decide)⟩
theorem pnum_in (X : Cx) (B : Nat) (b : List Int) (mx : Int) (p : Option Addr) (c : Nat) (w0 : World) (hb : b.length ≤ 1000000) (hbb : BytesL b) (n j : Nat) (hd : dec 0 0 b = .ok n j) (hl : (n : Int) ≤ mx) (m0 : MemOk X w0 [(1,.box B 148 [.slice p (b).length c,.int .i64 0]),(2,.dat (.slice p (b).length c) (.ns .u8 (b)))] w0) :
   Calls Tryz.prog 60 #[.pointer (some ⟨B,0,none⟩),.int .u64 mx] w0 fun e w' => ∃ (p' : Option Addr) (c' : Nat),e = .returned (.int .u64 (numR b 0 mx).1) ∧ MemOk X w0 [(1,.box B 148 [.slice p' ((numR b 0 mx).2.1).length c',.int .i64 (numR b 0 mx).2.2]),(2,.dat (.slice p' ((numR b 0 mx).2.1).length c') (.ns .u8 ((numR b 0 mx).2.1)))] w' := by
 have hN : numR b 0 mx = ((n : Int),b.drop j,0) := by rw [numR_val mx hd,if_neg (by omega)]
 refine ent2 Tryz.func60 rfl Tryz.ntmps60 fun Y U =>?_
 refine regS U (.assign rfl .nil) fun Y U =>?_
 refine wsk fun K0 hK0 =>?_
 refine regS U (.move rfl<|.nilCheck rfl<|.fieldAddr (off := 0) rfl U148 rfl (s := 1) (by kernel_rfl) rfl<|.fa 1 rfl U146<|.lb m0 1 U42 rfl rfl rfl<|.neq rfl rfl .nil) fun Y U =>?_
 refine bc U 12 ?_ ?_
 · intro hb _; exact absurd hb (by simp)
 clear U; intro _ U
 refine wcf U ?_
 refine zss (hK0 _ _ ?_)
 replace U := U.oz [0,1,4]
 refine zsr fun K1 hK1 =>?_
 refine goCh U (.move rfl<|.nilCheck rfl<|.fieldAddr (off := 0) rfl U148 rfl (s := 1) (by kernel_rfl) rfl .nil) fun Y U =>?_
 refine plz (ecl U Tryz.func106 rfl (pnumber_ok _ _ _ _ _ _ _ _ _ hb hbb hd (m0.into [(1,1),(2,2)] (by decide) rfl)) ?_)
 rintro e w16 ⟨p16,c16,rfl,hm16⟩
 have mx16 := m0.back hm16 [(1,1),(2,2)] (by decide); clear hm16 m0
 have m16 := mx16.oz [1,2]
 refine ⟨_,rfl,?_⟩; intro Y U
 refine gz hK1 U (.move rfl<|.extract rfl rfl<|.extract rfl rfl<|.assign rfl<|.assign rfl<|.nil) fun Y U =>?_
 refine wsk fun K2 hK2 =>?_
 replace U := U.oz [0,1,4,5,6]
 refine zsr fun K3 hK3 =>?_
 refine goCh U (.move rfl<|.eql rfl rfl<|.move rfl .nil) fun Y U =>?_
 refine bc U 22 ?_ ?_
 rotate_left
 · intro hb _; exact absurd hb (by simp)
 clear U; intro _ U
 refine gz hK3 U (.moveZ rfl<|.moveZ rfl<|.gtrZ rfl rfl<|.pickT rfl rfl<|.nil) fun Y U =>?_
 refine bc U 26 ?_ ?_
 · intro hb _; exact absurd hb (by simp; omega)
 clear U; intro _ U
 refine wcf U ?_
 refine zss (hK2 _ _ ?_)
 refine wsk fun K4 hK4 =>?_
 replace U := U.oz [0,4,5,6]
 refine regS U (.move rfl<|.neq rfl rfl .nil) fun Y U =>?_
 refine bc U 28 ?_ ?_
 · intro hb _; exact absurd hb (by simp)
 clear U; intro _ U
 refine wcf U ?_
 refine zss (hK4 _ _ ?_)
 refine regS U (.move rfl<|.assign rfl .nil) fun Y U =>?_
 refine rt1 U ?_
 rw [hN]
 exact ⟨_,_,rfl,m16.ren [(1,1),(2,2)] (by decide)⟩
theorem pnum_x (X : Cx) (B : Nat) (b : List Int) (er mx : Int) (p : Option Addr) (c : Nat) (w0 : World) (hb : b.length ≤ 1000000) (hbb : BytesL b) (m0 : MemOk X w0 [(1,.box B 148 [.slice p (b).length c,.int .i64 er]),(2,.dat (.slice p (b).length c) (.ns .u8 (b)))] w0) :
   Calls Tryz.prog 60 #[.pointer (some ⟨B,0,none⟩),.int .u64 mx] w0 fun e w' => ∃ (p' : Option Addr) (c' : Nat),e = .returned (.int .u64 (numR b er mx).1) ∧ MemOk X w0 [(1,.box B 148 [.slice p' ((numR b er mx).2.1).length c',.int .i64 (numR b er mx).2.2]),(2,.dat (.slice p' ((numR b er mx).2.1).length c') (.ns .u8 ((numR b er mx).2.1)))] w' := by
 by_cases he : er = 0
 · subst he
   cases hd : dec 0 0 b with
   | err er1 => exact pnum_err X B b mx p c w0 hb hbb er1 hd m0
   | ok n j =>
     by_cases hl : mx < n
     · exact pnum_long X B b mx p c w0 hb hbb n j hd hl m0
     exact pnum_in X B b mx p c w0 hb hbb n j hd (by omega) m0
 exact pnum_bad X B b er mx p c w0 hb hbb he m0
end
section
theorem fl146pnw : flatS Tryz.prog 146 [.slice none 0 0,.int .i64 0] = true := by kernel_rfl
theorem ps148pnw : placesS Tryz.prog 148 = some [(0,2)] := by kernel_rfl
theorem fl59mri : flatS Tryz.prog 59 [.int .i64 0,.slice none 0 0] = true := by kernel_rfl
theorem numR_own {x : Int} (rest : List Int) {mx : Int} (h0 : 0 ≤ x) (h1 : x ≤ mx) (h2 : mx ≤ 18446744073709551615) : numR (enc x ++ rest) 0 mx = (x,rest,0) := numR_ok x h0 (by omega) rest mx h1
theorem len_r {a b d : List Int} (h : d = a ++ b) (hd : d.length ≤ 1000000) : b.length ≤ 1000000 := by rw [h,List.length_append] at hd; omega
theorem itD_snoc {l : List (Int × List Int)} {k : Nat} {xb : Int} {xd : List Int} (h : l[k]? = some (xb,xd)) : (l.take (k + 1)).map itD = (l.take k).map itD ++ [[.v (.int .i64 xb),.ns .u8 xd]] := by
 rw [List.take_add_one,h,List.map_append]; rfl
set_option maxRecDepth 100000
set_option maxHeartbeats 4000000
theorem pnew_f (X : Cx) (b : List Int) (p : Option Addr) (c : Nat) (w0 : World) (hb : b.length ≤ 1000000) (m0 : MemOk X w0 [(1,.dat (.slice p b.length c) (.ns .u8 b))] w0) :
   Calls Tryz.prog 59 #[.slice p b.length c] w0 fun e w' => ∃ (B : Nat) (p' : Option Addr) (c' : Nat),e = .returned (.pointer (some ⟨B,0,none⟩)) ∧ MemOk X w0 [(1,.box B 148 [.slice p' (b).length c',.int .i64 0]),(2,.dat (.slice p' (b).length c') (.ns .u8 (b))),(3,.dat (.slice p b.length c) (.ns .u8 b))] w' := by
 refine ent1 Tryz.func59 rfl Tryz.ntmps59 fun Y U =>?_
 refine regS U (.assign rfl .nil) fun Y U =>?_
 refine zsr fun K0 hK0 =>?_
 refine goCh U (.move rfl .nil) fun Y U =>?_
 refine plz (e_litR U m0 20 (mm := 1) rfl (.cons rfl rfl (.cons (m0.rd (i := 1) rfl) .nil) .nil) U23 fct19 rfl rfl rfl rfl rfl fun g4 Y w5 U m5 =>?_)
 have m6 := m5.freezeR 20 rfl
 refine plz (ecn U Tryz.func68 rfl m6 21 (pjoin_is (ls := [b]) (S := b) ((m6.rd (i := 20) rfl).any) (by simp) (by simp [sumLen]; omega) (by simp)) fun p7 c7 Y w7 U m8 =>?_)
 refine goCh U (.build rfl fct20 fl146pnw rfl (by dsimp only [setL,List.set] <;> rfl)<|.buildG rfl fct21 ps148pnw rfl .nil) fun Y U =>?_
 refine plz (e_box U m8 22 (cs := [_,_]) rfl rfl rfl fun g12 Y w13 U m13 _ _ =>?_)
 refine gz hK0 U (.assign rfl .nil) fun Y U =>?_
 refine rt1 U ?_
 have m15 := m13.freezeN 21 rfl
 exact ⟨_,_,_,rfl,m15.ren [(1,22),(2,21),(3,1)] (by decide)⟩
theorem perr_x (X : Cx) (B : Nat) (b : List Int) (er : Int) (p : Option Addr) (c : Nat) (w0 : World) (m0 : MemOk X w0 [(1,.box B 148 [.slice p (b).length c,.int .i64 er]),(2,.dat (.slice p (b).length c) (.ns .u8 (b)))] w0) :
   Calls Tryz.prog 62 #[.pointer (some ⟨B,0,none⟩)] w0 fun e w' => e = .returned (.int .i64 er) ∧ MemOk X w0 [(1,.box B 148 [.slice p (b).length c,.int .i64 er]),(2,.dat (.slice p (b).length c) (.ns .u8 (b)))] w' := by
 refine ent1 Tryz.func62 rfl Tryz.ntmps62 fun Y U =>?_
 refine regS U (.assign rfl .nil) fun Y U =>?_
 refine regS U (.move rfl<|.nilCheck rfl<|.fieldAddr (off := 0) rfl U148 rfl (s := 1) (by kernel_rfl) rfl<|.fa 1 rfl U146<|.lb m0 1 U42 rfl rfl rfl<|.assign rfl .nil) fun Y U =>?_
 refine rt1 U ?_
 exact ⟨rfl,m0.only [1,2]⟩
theorem pnum_ok (X : Cx) (B : Nat) (b : List Int) (mx : Int) (p : Option Addr) (c : Nat) (w0 : World) (x : Int) (rest : List Int) (hb : b.length ≤ 1000000) (hbb : BytesL b) (hbe : b = enc x ++ rest) (hmx : mx ≤ 18446744073709551615) (hx : 0 ≤ x ∧ x ≤ mx) (m0 : MemOk X w0 [(1,.box B 148 [.slice p (b).length c,.int .i64 0]),(2,.dat (.slice p (b).length c) (.ns .u8 (b)))] w0) :
   Calls Tryz.prog 60 #[.pointer (some ⟨B,0,none⟩),.int .u64 mx] w0 fun e w' => ∃ (p' : Option Addr) (c' : Nat),e = .returned (.int .u64 x) ∧ MemOk X w0 [(1,.box B 148 [.slice p' (rest).length c',.int .i64 0]),(2,.dat (.slice p' (rest).length c') (.ns .u8 (rest)))] w' := by
 have hN : numR b 0 mx = (x,rest,0) := by rw [hbe]; exact numR_own rest hx.1 hx.2 hmx
 have h := pnum_x X B b 0 mx p c w0 hb hbb m0
 rw [hN] at h
 exact h
theorem rdlump_ok (X : Cx) (B : Nat) (b : List Int) (mx : Int) (p : Option Addr) (c : Nat) (w0 : World) (d rest : List Int) (hb : b.length ≤ 1000000) (hbb : BytesL b) (hbe : b = enc (d.length : Int) ++ (d ++ rest)) (hmx : mx ≤ 1000000) (hx : (d.length : Int) ≤ mx) (m0 : MemOk X w0 [(1,.box B 148 [.slice p (b).length c,.int .i64 0]),(2,.dat (.slice p (b).length c) (.ns .u8 (b)))] w0) :
   Calls Tryz.prog 140 #[.pointer (some ⟨B,0,none⟩),.int .i64 mx] w0 fun e w' => ∃ (p' : Option Addr) (c' : Nat) (p3 : Option Addr) (c3 : Nat),e = .returned (.slice p3 d.length c3) ∧ MemOk X w0 [(1,.box B 148 [.slice p' (rest).length c',.int .i64 0]),(2,.dat (.slice p' (rest).length c') (.ns .u8 (rest))),(3,.dat (.slice p3 d.length c3) (.ns .u8 d))] w' := by
 refine ent2 Tryz.func140 rfl Tryz.ntmps140 fun Y U =>?_
 have hun : d.length ≤ (d ++ rest).length := by rw [List.length_append]; omega
 have hdl : (d ++ rest).length ≤ 1000000 := by rw [hbe,List.length_append] at hb; omega
 refine regS U (.assign rfl .nil) fun Y U =>?_
 refine zsr fun K0 hK0 =>?_
 refine goCh U (.move rfl<|.move rfl<|.c rfl (fun _ h_ => y_max h_ rfl rfl (r := mx) (by omega))<|.conv rfl U3 U108 (r := mx) (IntWalk.u64_in _ (by omega)) .nil) fun Y U =>?_
 refine plz (ecl U Tryz.func60 rfl (pnum_ok _ _ _ mx _ _ _ (d.length : Int) (d ++ rest) hb hbb hbe (by omega) (by omega) (m0.into [(1,1),(2,2)] (by decide) rfl)) ?_)
 rintro e w10 ⟨p10,c10,rfl,hm10⟩
 have mx10 := m0.back hm10 [(1,1),(2,2)] (by decide); clear hm10 m0
 have m10 := mx10.oz [1,2]
 refine ⟨_,rfl,?_⟩; intro Y U
 refine gz hK0 U (.assign rfl .nil) fun Y U =>?_
 refine wsk fun K1 hK1 =>?_
 replace U := U.oz [0,4,5]
 refine regS U (.move rfl<|.nilCheck rfl<|.fieldAddr (off := 0) rfl U148 rfl (s := 1) (by kernel_rfl) rfl<|.fa 1 rfl U146<|.lb m10 1 U42 rfl rfl rfl<|.neq rfl rfl .nil) fun Y U =>?_
 refine bc U 17 ?_ ?_
 · intro hb _; exact absurd hb (by simp)
 clear U; intro _ U
 refine wcf U ?_
 refine zss (hK1 _ _ ?_)
 refine wsk fun K2 hK2 =>?_
 replace U := U.oz [0,4,5]
 refine regS U (.move rfl<|.move rfl<|.nilCheck rfl<|.fieldAddr (off := 0) rfl U148 rfl (s := 1) (by kernel_rfl) rfl<|.fa 0 rfl U146<|.lb m10 1 U22 rfl rfl rfl<|.len rfl U22<|.conv rfl U3 U108 (r := ((d ++ rest).length : Int)) (IntWalk.u64_in _ (by omega))<|.gtr rfl rfl .nil) fun Y U =>?_
 refine bc U 26 ?_ ?_
 · intro hb _; exact absurd hb (by rw [decide_eq_true_eq,List.length_append]; omega)
 clear U; intro _ U
 refine wcf U ?_
 refine zss (hK2 _ _ ?_)
 replace U := U.oz [0,4,5]
 refine zsr fun K3 hK3 =>?_
 refine goCh U (.move rfl<|.nilCheck rfl<|.fieldAddr (off := 0) rfl U148 rfl (s := 1) (by kernel_rfl) rfl<|.fa 0 rfl U146<|.lb m10 1 U22 rfl rfl rfl<|.move rfl .nil) fun Y U =>?_
 have hcap46 := (m10.rd (i := 2) rfl).ns_out.cap
 have m46 := m10.takeN (i := 2) rfl d.length hun 20 rfl
 refine goCh U (.c rfl (fun _ h_ => y_sliceHn h_ d.length rfl rfl U22 fct15 rfl (Nat.le_trans hun hcap46.1)) .nil) fun Y U =>?_
 refine plz (e_litR U m46 21 (mm := 1) rfl (.cons rfl rfl (.cons (m46.rd (i := 20) rfl) .nil) .nil) U23 fct19 rfl rfl rfl rfl rfl fun g48 Y w49 U m49 =>?_)
 have m50 := m49.freezeR 21 rfl
 refine plz (ecn U Tryz.func68 rfl m50 22 (pjoin_is (ls := [(d ++ rest).take d.length]) (S := d) ((m50.rd (i := 21) rfl).any) (by simp) (by simp [sumLen]; omega) (by simp)) fun p51 c51 Y w51 U m52 =>?_)
 refine gz hK3 U (.assign rfl .nil) fun Y U =>?_
 replace U := U.oz [0,4,5,6]
 refine zsr fun K4 hK4 =>?_
 refine goCh U (.move rfl<|.move rfl<|.nilCheck rfl<|.fieldAddr (off := 0) rfl U148 rfl (s := 1) (by kernel_rfl) rfl<|.fa 0 rfl U146<|.lb m52 1 U22 rfl rfl rfl<|.move rfl .nil) fun Y U =>?_
 have m71 := m52.dropN (i := 2) rfl d.length hun 23 rfl
 refine goCh U (.c rfl (fun _ h_ => y_sliceLn h_ d.length rfl rfl U22 fct15 rfl hun)<|.nilCheck rfl<|.fieldAddr (off := 0) rfl U148 rfl (s := 1) (by kernel_rfl) rfl<|.fa 0 rfl U146 .nil) fun Y U =>?_
 refine plz (st1 U m71 1 fct2 fun w76 m76 _ =>?_)
 refine znl (hK4 _ _ ?_)
 replace U := U.oz [4,6]
 refine regS U (.move rfl<|.assign rfl .nil) fun Y U =>?_
 refine rt1 U ?_
 have e2 : (d ++ rest).drop d.length = rest := List.drop_left
 have e3 : (d ++ rest).length - d.length = rest.length := by rw [List.length_append]; omega
 rw [e2,e3] at m76
 have m80 := m76.freezeN 22 rfl
 exact ⟨_,_,_,_,rfl,m80.ren [(1,1),(2,23),(3,22)] (by decide)⟩
theorem num_o (X : Cx) (B : Nat) (b : List Int) (p : Option Addr) (c : Nat) (w0 : World) (x : Int) (rest : List Int) (hb : b.length ≤ 1000000) (hbb : BytesL b) (hbe : b = enc x ++ rest) (hx : 0 ≤ x ∧ x ≤ 1099511627776) (m0 : MemOk X w0 [(1,.box B 148 [.slice p (b).length c,.int .i64 0]),(2,.dat (.slice p (b).length c) (.ns .u8 (b)))] w0) :
   Calls Tryz.prog 73 #[.pointer (some ⟨B,0,none⟩)] w0 fun e w' => ∃ (p' : Option Addr) (c' : Nat),e = .returned (.int .i64 x) ∧ MemOk X w0 [(1,.box B 148 [.slice p' (rest).length c',.int .i64 0]),(2,.dat (.slice p' (rest).length c') (.ns .u8 (rest)))] w' := by
 refine ent1 Tryz.func73 rfl Tryz.ntmps73 fun Y U =>?_
 refine regS U (.assign rfl .nil) fun Y U =>?_
 refine zsr fun K0 hK0 =>?_
 refine goCh U (.move rfl .nil) fun Y U =>?_
 refine plz (ecl U Tryz.func60 rfl (pnum_ok _ _ _ 1099511627776 _ _ _ x rest hb hbb hbe (by omega) hx (m0.into [(1,1),(2,2)] (by decide) rfl)) ?_)
 rintro e w4 ⟨p4,c4,rfl,hm4⟩
 have mx4 := m0.back hm4 [(1,1),(2,2)] (by decide); clear hm4 m0
 have m4 := mx4.oz [1,2]
 refine ⟨_,rfl,?_⟩; intro Y U
 refine gz hK0 U (.conv rfl U108 U3 (r := x) (IntWalk.i64_in _ (by omega))<|.assign rfl<|.nil) fun Y U =>?_
 refine rt1 U ?_
 exact ⟨_,_,rfl,m4.only [1,2]⟩
theorem time_o (X : Cx) (B : Nat) (b : List Int) (p : Option Addr) (c : Nat) (w0 : World) (x : Int) (rest : List Int) (hb : b.length ≤ 1000000) (hbb : BytesL b) (hbe : b = enc x ++ rest) (hx : 0 ≤ x ∧ x ≤ 1099511627776) (m0 : MemOk X w0 [(1,.box B 148 [.slice p (b).length c,.int .i64 0]),(2,.dat (.slice p (b).length c) (.ns .u8 (b)))] w0) :
   Calls Tryz.prog 74 #[.pointer (some ⟨B,0,none⟩)] w0 fun e w' => ∃ (p' : Option Addr) (c' : Nat),e = .returned (.int .i64 x) ∧ MemOk X w0 [(1,.box B 148 [.slice p' (rest).length c',.int .i64 0]),(2,.dat (.slice p' (rest).length c') (.ns .u8 (rest)))] w' := by
 refine ent1 Tryz.func74 rfl Tryz.ntmps74 fun Y U =>?_
 refine regS U (.assign rfl .nil) fun Y U =>?_
 refine zsr fun K0 hK0 =>?_
 refine goCh U (.move rfl .nil) fun Y U =>?_
 refine plz (ecl U Tryz.func73 rfl (num_o _ _ _ _ _ _ x rest hb hbb hbe hx (m0.into [(1,1),(2,2)] (by decide) rfl)) ?_)
 rintro e w4 ⟨p4,c4,rfl,hm4⟩
 have mx4 := m0.back hm4 [(1,1),(2,2)] (by decide); clear hm4 m0
 have m4 := mx4.oz [1,2]
 refine ⟨_,rfl,?_⟩; intro Y U
 refine gz hK0 U (.assign rfl .nil) fun Y U =>?_
 refine rt1 U ?_
 exact ⟨_,_,rfl,m4.only [1,2]⟩
theorem listI_o (X : Cx) (B : Nat) (b : List Int) (p : Option Addr) (c : Nat) (w0 : World) (l T : List Int) (hb : b.length ≤ 1000000) (hbb : BytesL b) (hbe : b = enc (l.length : Int) ++ (encs l ++ T)) (hl : l.length ≤ 1000) (hlb : ∀ k,k < l.length → 0 ≤ l.getD k 0 ∧ l.getD k 0 ≤ 1099511627776) (m0 : MemOk X w0 [(1,.box B 148 [.slice p (b).length c,.int .i64 0]),(2,.dat (.slice p (b).length c) (.ns .u8 (b)))] w0) :
   Calls Tryz.prog 75 #[.pointer (some ⟨B,0,none⟩),.func (.func 73) #[] #[]] w0 fun e w' => ∃ (p' : Option Addr) (c' : Nat) (p3 : Option Addr) (c3 : Nat),e = .returned (.slice p3 l.length c3) ∧ MemOk X w0 [(1,.box B 148 [.slice p' (T).length c',.int .i64 0]),(2,.dat (.slice p' (T).length c') (.ns .u8 (T))),(3,.dat (.slice p3 l.length c3) (.ns .i64 l))] w' := by
 refine ent2 Tryz.func75 rfl Tryz.ntmps75 fun Y U =>?_
 have hlT := bytes_r (hbe ▸ hbb)
 have hlL := len_r hbe hb
 refine regS U (.assign rfl .nil) fun Y U =>?_
 refine regS U (.assign rfl .nil) fun Y U =>?_
 refine wsk fun K0 hK0 =>?_
 refine zsr fun K1 hK1 =>?_
 refine goCh U (.move rfl .nil) fun Y U =>?_
 refine plz (ecl U Tryz.func60 rfl (pnum_ok _ _ _ 1099511627776 _ _ _ (l.length : Int) (encs (l) ++ T) hb hbb hbe (by omega) (by omega) (m0.into [(1,1),(2,2)] (by decide) rfl)) ?_)
 rintro e w5 ⟨p5,c5,rfl,hm5⟩
 have mx5 := m0.back hm5 [(1,1),(2,2)] (by decide); clear hm5 m0
 have m5 := mx5.oz [1,2]
 refine ⟨_,rfl,?_⟩; intro Y U
 refine gz hK1 U (.move rfl .nil) fun Y U =>?_
 refine wp_block ?_
 refine wp_loop_ghost (fun g a w => ∃ (k : Nat) (p1 : Option Addr) (c1 : Nat) (p3 : Option Addr) (c3 : Nat),k ≤ l.length ∧ g = l.length - k ∧ (encs (l.drop k) ++ T).length ≤ 1000000 ∧ BytesL (encs (l.drop k) ++ T) ∧ Has 23 [(0,.pointer (some ⟨B,0,none⟩)),(1,.func (.func 73) #[] #[]),(5,.slice p3 (l.take k).length c3),(8,.int .u64 (l.length : Nat)),(9,.int .u64 (k : Int))] a ∧ MemOk X w0 [(1,.box B 148 [.slice p1 (encs (l.drop k) ++ T).length c1,.int .i64 0]),(2,.dat (.slice p1 (encs (l.drop k) ++ T).length c1) (.ns .u8 (encs (l.drop k) ++ T))),(7,.num (.slice p3 (l.take k).length c3) 3 .i64 (l.take k))] w) (l.length) ?_ ?_
 · have mz := m5.nilN 7 3 .i64
   exact ⟨0,_,_,_,_,Nat.zero_le _,rfl,by rw [List.drop_zero]; exact hlL,by rw [List.drop_zero]; exact hlT,U.only [0,1,5,8,9],mz.ren [(1,1),(2,2),(7,7)] (by decide)⟩
 clear U m5
 rintro g Y w8 ⟨k,p1,c1,p3,c3,hkl,hg,hb1,hbb1,U,m8⟩
 refine regS U (.lss rfl rfl .nil) fun Y U =>?_
 refine wsk fun K2 hK2 =>?_
 refine bc U 10 ?_ ?_
 ·
  intro hb10 U; try simp only [QQ,Qax] at hb10
  have hk : k < l.length := by omega
  have hb2 : (encs (l.drop (k + 1)) ++ T).length ≤ 1000000 := by have h9 := hb1; rw [encs_drop hk,List.append_assoc,List.length_append] at h9; omega
  have hbb2 : BytesL (encs (l.drop (k + 1)) ++ T) := bytes_r (by have h9 := hbb1; rw [encs_drop hk,List.append_assoc] at h9; exact h9)
  refine wct U ?_
  refine zss (hK2 _ _ ?_)
  refine wsk fun K3 hK3 =>?_
  refine wp_block ?_
  refine zsr fun K4 hK4 =>?_
  refine goCh U (.move rfl<|.move rfl .nil) fun Y U =>?_
  refine plz (e_callV U rfl Tryz.func73 rfl rfl rfl rfl (num_o _ _ _ _ _ _ (l.getD k 0) (encs (l.drop (k + 1)) ++ T) hb1 hbb1 (by rw [encs_drop hk,List.append_assoc]) (hlb k hk) (m8.into [(1,1),(2,2)] (by decide) rfl)) ?_)
  rintro e w15 ⟨p15,c15,rfl,hm15⟩
  have mx15 := m8.back hm15 [(1,1),(2,2)] (by decide); clear hm15 m8
  have m15 := mx15.oz [1,2,7]
  refine ⟨_,rfl,?_⟩; intro Y U
  refine gz hK4 U (.assign rfl .nil) fun Y U =>?_
  refine wsk fun K5 hK5 =>?_
  refine zsr fun K6 hK6 =>?_
  refine goCh U (.move rfl .nil) fun Y U =>?_
  refine plz (ecl U Tryz.func62 rfl (perr_x _ _ _ _ _ _ _ (m15.into [(1,1),(2,2)] (by decide) rfl)) ?_)
  rintro e w20 ⟨rfl,hm20⟩
  have mx20 := m15.back hm20 [(1,1),(2,2)] (by decide); clear hm20 m15
  have m20 := mx20.oz [1,2,7]
  refine ⟨_,rfl,?_⟩; intro Y U
  refine gz hK6 U (.neq rfl rfl .nil) fun Y U =>?_
  refine bc U 16 ?_ ?_
  · intro hb _; exact absurd hb (by simp)
  clear U; intro _ U
  refine wcf U ?_
  refine zss (hK5 _ _ ?_)
  replace U := U.oz [0,1,5,8,9,6]
  refine wp_region_lit ?_
  refine goCh U (.move rfl<|.move rfl .nil) fun Y U =>?_
  refine plz (e_litN U m20 100 (k := .i64) rfl rfl U35 fct16 rfl rfl rfl rfl fun g27 Y w28 U m28 =>?_)
  refine plz (e_appN U m28 7 rfl rfl rfl (m28.numsO (i := 100) rfl) U35 fct16 (by decide) (by simp; omega) rfl fun p29 c29 Y w30 U m30 =>?_)
  refine gz hK3 U (.assign rfl .nil) fun Y U =>?_
  refine wp_region_lit ?_
  refine goCh U (.add rfl rfl (r := ((k + 1 : Nat) : Int)) (by rw [IntWalk.u64_in _ (by omega)]; omega)<|.move rfl .nil) fun Y U =>?_
  refine wpList_nil ?_
  show ∃ n',n' < _ ∧ _
  have hE : l.take k ++ [l.getD k 0] = l.take (k + 1) := (take_getD hk).symm
  rw [hE] at m30 U
  exact ⟨l.length - (k + 1),by omega,k + 1,_,_,_,_,by omega,rfl,hb2,hbb2,U.only [0,1,5,8,9],m30.ren [(1,1),(2,2),(7,7)] (by decide)⟩
 intro hb10 U; try simp only [QQ,Qax] at hb10
 revert U
 obtain rfl : k = l.length := by omega
 intro U
 rw [List.drop_length,show encs [] ++ T = T from rfl,List.take_length] at m8
 rw [List.take_length] at U
 refine wcf U ?_
 refine wp_exit ?_
 refine hK0 _ _ ?_
 refine regS U (.move rfl<|.assign rfl .nil) fun Y U =>?_
 refine rt1 U ?_
 have m36 := m8.freezeN 7 rfl
 exact ⟨_,_,_,_,rfl,m36.ren [(1,1),(2,2),(3,7)] (by decide)⟩
theorem readItem_o (X : Cx) (B : Nat) (b : List Int) (p : Option Addr) (c : Nat) (w0 : World) (xb : Int) (xd T : List Int) (hb : b.length ≤ 1000000) (hbb : BytesL b) (hbe : b = enc xb ++ (enc (xd.length : Int) ++ (xd ++ T))) (hx1 : 0 ≤ xb ∧ xb ≤ 255) (hx2 : xd.length ≤ 32) (m0 : MemOk X w0 [(1,.box B 148 [.slice p (b).length c,.int .i64 0]),(2,.dat (.slice p (b).length c) (.ns .u8 (b)))] w0) :
   Calls Tryz.prog 119 #[.pointer (some ⟨B,0,none⟩)] w0 fun e w' => ∃ (p' : Option Addr) (c' : Nat) (p3 : Option Addr) (c3 : Nat),e = .returned (.agg #[.int .i64 xb,.slice p3 xd.length c3]) ∧ MemOk X w0 [(1,.box B 148 [.slice p' (T).length c',.int .i64 0]),(2,.dat (.slice p' (T).length c') (.ns .u8 (T))),(3,.dat (.slice p3 xd.length c3) (.ns .u8 xd))] w' := by
 refine ent1 Tryz.func119 rfl Tryz.ntmps119 fun Y U =>?_
 have hbb2 := bytes_r (hbe ▸ hbb)
 have hb2 := len_r hbe hb
 refine zsr fun K0 hK0 =>?_
 refine plz (e_alloc U m0 20 fct4 rfl fun g1 Y w2 U m2 _ _ =>?_)
 refine znl (hK0 _ _ ?_)
 refine zsr fun K1 hK1 =>?_
 refine goCh U (.move rfl .nil) fun Y U =>?_
 refine plz (ecl U Tryz.func73 rfl (num_o _ _ _ _ _ _ xb (enc (xd.length : Int) ++ (xd ++ T)) hb hbb hbe (by omega) (m2.into [(1,1),(2,2)] (by decide) rfl)) ?_)
 rintro e w5 ⟨p5,c5,rfl,hm5⟩
 have mx5 := m2.back hm5 [(1,1),(2,2)] (by decide); clear hm5 m2
 have m5 := mx5.oz [1,2,20]
 refine ⟨_,rfl,?_⟩; intro Y U
 refine goCh U (.move rfl .nil) fun Y U =>?_
 refine plz (ecl U Tryz.func140 rfl (rdlump_ok _ _ _ 32 _ _ _ xd T hb2 hbb2 rfl (by omega) (by omega) (m5.into [(1,1),(2,2)] (by decide) rfl)) ?_)
 rintro e w8 ⟨p8,c8,p38,c38,rfl,hm8⟩
 have mx8 := m5.back hm8 [(1,1),(2,2),(21,3)] (by decide); clear hm8 m5
 have m8 := mx8.oz [1,2,21,20]
 refine ⟨_,rfl,?_⟩; intro Y U
 refine goCh U (.build rfl fct4 fl59mri rfl (by dsimp only [setL,List.set] <;> rfl) .nil) fun Y U =>?_
 refine plz (stw U m8 20 fct3 fun w11 m11 _ =>?_)
 refine znl (hK1 _ _ ?_)
 refine rtd (retC (fn := Tryz.f119) U m11 (i := 20) rfl rfl rfl U59 rfl fct3 ?_)
 exact ⟨_,_,_,_,rfl,m11.ren [(1,1),(2,2),(3,21)] (by decide)⟩
theorem listT_o (X : Cx) (B : Nat) (b : List Int) (p : Option Addr) (c : Nat) (w0 : World) (l : List (Int × List Int)) (T : List Int) (hb : b.length ≤ 1000000) (hbb : BytesL b) (hbe : b = enc (l.length : Int) ++ (itemsE l ++ T)) (hl : l.length ≤ 1000) (hlb : ∀ e ∈ l,(0 ≤ e.1 ∧ e.1 ≤ 255) ∧ e.2.length ≤ 32) (m0 : MemOk X w0 [(1,.box B 148 [.slice p (b).length c,.int .i64 0]),(2,.dat (.slice p (b).length c) (.ns .u8 (b)))] w0) :
   Calls Tryz.prog 118 #[.pointer (some ⟨B,0,none⟩),.func (.func 119) #[] #[]] w0 fun e w' => ∃ (p' : Option Addr) (c' : Nat) (p3 : Option Addr) (c3 : Nat),e = .returned (.slice p3 (l.map itD).length c3) ∧ MemOk X w0 [(1,.box B 148 [.slice p' (T).length c',.int .i64 0]),(2,.dat (.slice p' (T).length c') (.ns .u8 (T))),(3,.dat (.slice p3 (l.map itD).length c3) (.l 2 (l.map itD)))] w' := by
 refine ent2 Tryz.func118 rfl Tryz.ntmps118 fun Y U =>?_
 have hlT := bytes_r (hbe ▸ hbb)
 have hlL := len_r hbe hb
 refine regS U (.assign rfl .nil) fun Y U =>?_
 refine regS U (.assign rfl .nil) fun Y U =>?_
 refine wsk fun K0 hK0 =>?_
 refine zsr fun K1 hK1 =>?_
 refine goCh U (.move rfl .nil) fun Y U =>?_
 refine plz (ecl U Tryz.func60 rfl (pnum_ok _ _ _ 1099511627776 _ _ _ (l.length : Int) (itemsE (l) ++ T) hb hbb hbe (by omega) (by omega) (m0.into [(1,1),(2,2)] (by decide) rfl)) ?_)
 rintro e w5 ⟨p5,c5,rfl,hm5⟩
 have mx5 := m0.back hm5 [(1,1),(2,2)] (by decide); clear hm5 m0
 have m5 := mx5.oz [1,2]
 refine ⟨_,rfl,?_⟩; intro Y U
 refine gz hK1 U (.move rfl .nil) fun Y U =>?_
 refine wp_block ?_
 refine wp_loop_ghost (fun g a w => ∃ (k : Nat) (p1 : Option Addr) (c1 : Nat) (p3 : Option Addr) (c3 : Nat),k ≤ l.length ∧ g = l.length - k ∧ (itemsE (l.drop k) ++ T).length ≤ 1000000 ∧ BytesL (itemsE (l.drop k) ++ T) ∧ Has 23 [(0,.pointer (some ⟨B,0,none⟩)),(1,.func (.func 119) #[] #[]),(5,.slice p3 ((l.take k).map itD).length c3),(8,.int .u64 (l.length : Nat)),(9,.int .u64 (k : Int))] a ∧ MemOk X w0 [(1,.box B 148 [.slice p1 (itemsE (l.drop k) ++ T).length c1,.int .i64 0]),(2,.dat (.slice p1 (itemsE (l.drop k) ++ T).length c1) (.ns .u8 (itemsE (l.drop k) ++ T))),(7,.row (.slice p3 ((l.take k).map itD).length c3) 59 2 ((l.take k).map itD))] w) (l.length) ?_ ?_
 · have mz := m5.nilR 7 59 2
   exact ⟨0,_,_,_,_,Nat.zero_le _,rfl,by rw [List.drop_zero]; exact hlL,by rw [List.drop_zero]; exact hlT,U.only [0,1,5,8,9],mz.ren [(1,1),(2,2),(7,7)] (by decide)⟩
 clear U m5
 rintro g Y w8 ⟨k,p1,c1,p3,c3,hkl,hg,hb1,hbb1,U,m8⟩
 refine regS U (.lss rfl rfl .nil) fun Y U =>?_
 refine wsk fun K2 hK2 =>?_
 refine bc U 10 ?_ ?_
 ·
  intro hb10 U; try simp only [QQ,Qax] at hb10
  have hk : k < l.length := by omega
  obtain ⟨⟨xb,xd⟩,hes⟩ : ∃ e,l[k]? = some e := ⟨_,List.getElem?_eq_getElem hk⟩
  have hx := hlb _ (List.mem_of_getElem? hes)
  have hb2 : (itemsE (l.drop (k + 1)) ++ T).length ≤ 1000000 := by have h9 := hb1; rw [itemsE_drop hes,List.append_assoc,List.length_append] at h9; omega
  have hbb2 : BytesL (itemsE (l.drop (k + 1)) ++ T) := bytes_r (by have h9 := hbb1; rw [itemsE_drop hes,List.append_assoc] at h9; exact h9)
  refine wct U ?_
  refine zss (hK2 _ _ ?_)
  refine wsk fun K3 hK3 =>?_
  refine wp_block ?_
  refine zsr fun K4 hK4 =>?_
  refine goCh U (.move rfl<|.move rfl .nil) fun Y U =>?_
  refine plz (e_callV U rfl Tryz.func119 rfl rfl rfl rfl (readItem_o _ _ _ _ _ _ xb xd (itemsE (l.drop (k + 1)) ++ T) hb1 hbb1 (by rw [itemsE_drop hes]; simp only [itemE,List.append_assoc]) hx.1 hx.2 (m8.into [(1,1),(2,2)] (by decide) rfl)) ?_)
  rintro e w15 ⟨p15,c15,p315,c315,rfl,hm15⟩
  have mx15 := m8.back hm15 [(1,1),(2,2),(100,3)] (by decide); clear hm15 m8
  have m15 := mx15.oz [1,2,100,7]
  refine ⟨_,rfl,?_⟩; intro Y U
  refine plz (e_alloc U m15 101 fct4 rfl fun g17 Y w18 U m18 _ _ =>?_)
  refine plz (stw U m18 101 fct3 fun w19 m19 _ =>?_)
  refine znl (hK4 _ _ ?_)
  refine wsk fun K5 hK5 =>?_
  refine zsr fun K6 hK6 =>?_
  refine goCh U (.move rfl .nil) fun Y U =>?_
  refine plz (ecl U Tryz.func62 rfl (perr_x _ _ _ _ _ _ _ (m19.into [(1,1),(2,2)] (by decide) rfl)) ?_)
  rintro e w22 ⟨rfl,hm22⟩
  have mx22 := m19.back hm22 [(1,1),(2,2)] (by decide); clear hm22 m19
  have m22 := mx22.oz [1,2,7,100,101]
  refine ⟨_,rfl,?_⟩; intro Y U
  refine gz hK6 U (.neq rfl rfl .nil) fun Y U =>?_
  refine bc U 16 ?_ ?_
  · intro hb _; exact absurd hb (by simp)
  clear U; intro _ U
  refine wcf U ?_
  refine zss (hK5 _ _ ?_)
  replace U := U.oz [0,1,5,8,9,6]
  refine wp_region_lit ?_
  refine goCh U (.move rfl<|.loadBR m22 (i := 101) rfl rfl U59 rfl fct3 (by simp) (by dsimp only [List.drop,List.take] <;> rfl) .nil) fun Y U =>?_
  refine plz (e_litR U m22 102 (mm := 2) rfl (.cons rfl rfl (.cons (.v _) (.cons (m22.rd (i := 100) rfl) .nil)) .nil) U36 fct5 rfl rfl rfl rfl rfl fun g29 Y w30 U m30 =>?_)
  have m32 := m30.freezeR 102 rfl
  refine plz (e_appR U m32 7 rfl rfl rfl (m32.rd (i := 102) rfl) U36 fct5 rfl rfl (by decide) (by simp; omega) rfl fun p31 c31 Y w33 U m33 =>?_)
  refine gz hK3 U (.assign rfl .nil) fun Y U =>?_
  refine wp_region_lit ?_
  refine goCh U (.add rfl rfl (r := ((k + 1 : Nat) : Int)) (by rw [IntWalk.u64_in _ (by omega)]; omega)<|.move rfl .nil) fun Y U =>?_
  refine wpList_nil ?_
  show ∃ n',n' < _ ∧ _
  have hE : (l.take k).map itD ++ [[.v (.int .i64 xb),.ns .u8 xd]] = (l.take (k + 1)).map itD := (itD_snoc hes).symm
  rw [hE] at m33 U
  exact ⟨l.length - (k + 1),by omega,k + 1,_,_,_,_,by omega,rfl,hb2,hbb2,U.only [0,1,5,8,9],m33.ren [(1,1),(2,2),(7,7)] (by decide)⟩
 intro hb10 U; try simp only [QQ,Qax] at hb10
 revert U
 obtain rfl : k = l.length := by omega
 intro U
 rw [List.drop_length,show itemsE [] ++ T = T from rfl,List.take_length] at m8
 rw [List.take_length] at U
 refine wcf U ?_
 refine wp_exit ?_
 refine hK0 _ _ ?_
 refine regS U (.move rfl<|.assign rfl .nil) fun Y U =>?_
 refine rt1 U ?_
 have m39 := m8.freezeR 7 rfl
 exact ⟨_,_,_,_,rfl,m39.ren [(1,1),(2,2),(3,7)] (by decide)⟩
theorem readItems_o (X : Cx) (B : Nat) (b : List Int) (p : Option Addr) (c : Nat) (w0 : World) (l : List (Int × List Int)) (T : List Int) (hb : b.length ≤ 1000000) (hbb : BytesL b) (hbe : b = enc (l.length : Int) ++ (itemsE l ++ T)) (hl : l.length ≤ 1000) (hlb : ∀ e ∈ l,(0 ≤ e.1 ∧ e.1 ≤ 255) ∧ e.2.length ≤ 32) (m0 : MemOk X w0 [(1,.box B 148 [.slice p (b).length c,.int .i64 0]),(2,.dat (.slice p (b).length c) (.ns .u8 (b)))] w0) :
   Calls Tryz.prog 76 #[.pointer (some ⟨B,0,none⟩)] w0 fun e w' => ∃ (p' : Option Addr) (c' : Nat) (p3 : Option Addr) (c3 : Nat),e = .returned (.slice p3 (l.map itD).length c3) ∧ MemOk X w0 [(1,.box B 148 [.slice p' (T).length c',.int .i64 0]),(2,.dat (.slice p' (T).length c') (.ns .u8 (T))),(3,.dat (.slice p3 (l.map itD).length c3) (.l 2 (l.map itD)))] w' := by
 refine ent1 Tryz.func76 rfl Tryz.ntmps76 fun Y U =>?_
 refine regS U (.assign rfl .nil) fun Y U =>?_
 refine zsr fun K0 hK0 =>?_
 refine goCh U (.move rfl .nil) fun Y U =>?_
 refine plz (ecl U Tryz.func118 rfl (listT_o _ _ _ _ _ _ l T hb hbb hbe hl hlb (m0.into [(1,1),(2,2)] (by decide) rfl)) ?_)
 rintro e w4 ⟨p4,c4,p34,c34,rfl,hm4⟩
 have mx4 := m0.back hm4 [(1,1),(2,2),(20,3)] (by decide); clear hm4 m0
 have m4 := mx4.oz [1,2,20]
 refine ⟨_,rfl,?_⟩; intro Y U
 refine gz hK0 U (.assign rfl .nil) fun Y U =>?_
 refine rt1 U ?_
 exact ⟨_,_,_,_,rfl,m4.ren [(1,1),(2,2),(3,20)] (by decide)⟩
end
section
set_option maxRecDepth 100000
set_option maxHeartbeats 4000000
end
end Go.Proofs.YtkehgingagggaaaGreat.K
