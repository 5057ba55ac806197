/- General laws of walks. -/
import Derived.Test.YtkehgingagggaaaGreatG13
namespace Go.Proofs.YtkehgingagggaaaGreat.K
open Go.ChangeShapes Go.WideShapes Go.ChangeAt Go.RowKit
set_option linter.unusedVariables false
set_option linter.unusedSimpArgs false
section
theorem fl59xtI : flatS Tryz.prog 59 [.int .i64 0,.slice none 0 0] = true := by kernel_rfl
theorem andx {x : Int} (h0 : 0 ≤ x) (h1 : x ≤ 255) : IntKind.u8.wrap (BitVec.ofInt IntKind.u8.bits x &&& BitVec.ofInt IntKind.u8.bits 127).toNat = x % 128 := and127 x h0 h1
theorem shx {k : Nat} (hk : k ≤ 9) : min (7 * (k : Int)).toNat IntKind.u64.bits = 7 * k := by
 have : IntKind.u64.bits = 64 := rfl
 omega
theorem getD_bd {b : List Int} {k : Nat} (h : BytesL b) (hk : k < b.length) : 0 ≤ b.getD k 0 ∧ b.getD k 0 ≤ 255 := by
 rw [List.getD,List.getElem?_eq_getElem hk]; exact h _ (List.getElem_mem hk)
theorem dec_at {b : List Int} {u k : Nat} (hk : k < b.length) : dec u k (b.drop k) = if (k = 9 ∧ 1 < b.getD k 0) ∨ (0 < k ∧ b.getD k 0 = 0) then .err 20 else if b.getD k 0 < 128 then .ok (u + (b.getD k 0 % 128).toNat * 2 ^ (7 * k)) (k + 1) else dec (u + (b.getD k 0 % 128).toNat * 2 ^ (7 * k)) (k + 1) (b.drop (k + 1)) := by
 rw [List.drop_eq_getElem_cons hk,dec,List.getD,List.getElem?_eq_getElem hk]; rfl
theorem bytes_r {a b : List Int} (h : BytesL (a ++ b)) : BytesL b := fun x hx => h x (List.mem_append_right _ hx)
theorem encs_drop {l : List Int} {k : Nat} (hk : k < l.length) : encs (l.drop k) = enc (l.getD k 0) ++ encs (l.drop (k + 1)) := by
 rw [List.drop_eq_getElem_cons hk,encs_cons,List.getD,List.getElem?_eq_getElem hk]; rfl
theorem itemsE_drop {l : List (Int × List Int)} {k : Nat} {e : Int × List Int} (h : l[k]? = some e) : itemsE (l.drop k) = itemE e ++ itemsE (l.drop (k + 1)) := by
 obtain ⟨hk,rfl⟩ := List.getElem?_eq_some_iff.1 h
 show List.flatMap itemE (l.drop k) = _
 rw [List.drop_eq_getElem_cons hk,List.flatMap_cons]; rfl
theorem take_getD {l : List Int} {k : Nat} (hk : k < l.length) : l.take (k + 1) = l.take k ++ [l.getD k 0] := by
 rw [List.take_succ_eq_append_getElem hk,List.getD,List.getElem?_eq_getElem hk]; rfl
set_option maxRecDepth 100000
set_option maxHeartbeats 4000000
theorem rfail_x (X : Cx) (B : Nat) (v : Value) (er cd : Int) (w0 : World) (m0 : MemOk X w0 [(1,.box B 115 [v,.int .i64 er])] w0) :
   Calls Tryz.prog 114 #[.pointer (some ⟨B,0,none⟩),.int .i64 cd] w0 fun e w' => e = .returned (.tuple #[]) ∧ MemOk X w0 [(1,.box B 115 [.slice none 0 0,.int .i64 cd])] w' := by
 refine ent2 Tryz.func114 rfl Tryz.ntmps114 fun Y U =>?_
 refine wp_region_lit ?_
 refine goCh U (.move rfl<|.move rfl<|.move rfl<|.nilCheck rfl<|.fa 0 rfl U115 .nil) fun Y U =>?_
 refine plz (st1 U m0 1 fct2 fun w6 m6 _ =>?_)
 refine goCh U (.nilCheck rfl<|.fa 1 rfl U115 .nil) fun Y U =>?_
 refine plz (st1 U m6 1 fct17 fun w9 m9 _ =>?_)
 refine wpList_nil ?_
 try dsimp only [Exit.then,Exit.inBlock]
 try refine out_here ?_
 refine (ret0 (fn := Tryz.f114) U rfl ?_)
 exact ⟨rfl,m9.only [1]⟩
theorem rnum_x (X : Cx) (B : Nat) (b : List Int) (er mx : Int) (p : Option Addr) (c : Nat) (w0 : World) (hb : b.length ≤ 1000000) (hbb : BytesL b) (m0 : MemOk X w0 [(1,.box B 115 [.slice p (b).length c,.int .i64 er]),(2,.dat (.slice p (b).length c) (.ns .u8 (b)))] w0) :
   Calls Tryz.prog 65 #[.pointer (some ⟨B,0,none⟩),.int .u64 mx] w0 fun e w' => ∃ (p' : Option Addr) (c' : Nat),e = .returned (.int .u64 (numR b er mx).1) ∧ MemOk X w0 [(1,.box B 115 [.slice p' ((numR b er mx).2.1).length c',.int .i64 (numR b er mx).2.2]),(2,.dat (.slice p' ((numR b er mx).2.1).length c') (.ns .u8 ((numR b er mx).2.1)))] w' := by
 refine ent2 Tryz.func65 rfl Tryz.ntmps65 fun Y U =>?_
 refine regS U (.assign rfl .nil) fun Y U =>?_
 refine wsk fun K0 hK0 =>?_
 refine regS U (.move rfl<|.nilCheck rfl<|.fa 1 rfl U115<|.lb m0 1 U3 rfl rfl rfl<|.neq rfl rfl .nil) fun Y U =>?_
 refine bc U 12 ?_ ?_
 ·
  intro hb7 U; try simp only [QQ,Qax] at hb7
  have hN : numR b er mx = (0,b,er) := numR_bad b er mx (by omega)
  refine wct U ?_
  refine regS U (.assign rfl .nil) fun Y U =>?_
  refine rt1 U ?_
  rw [hN]
  exact ⟨_,_,rfl,m0.ren [(1,1),(2,2)] (by decide)⟩
 intro hb7 U; try simp only [QQ,Qax] at hb7
 revert U
 obtain rfl : er = 0 := by omega
 intro U
 refine wcf U ?_
 refine zss (hK0 _ _ ?_)
 refine regS U (.assign rfl .nil) fun Y U =>?_
 refine wsk fun K1 hK1 =>?_
 refine regS U (.assign rfl .nil) fun Y U =>?_
 refine wp_block ?_
 refine wp_loop_ghost (fun g a w => ∃ (k u : Nat),k ≤ b.length ∧ k ≤ 9 ∧ g = b.length - k ∧ u < 2 ^ (7 * k) ∧ dec u k (b.drop k) = dec 0 0 b ∧ Has 73 [(0,.pointer (some ⟨B,0,none⟩)),(1,.int .u64 mx),(5,.int .u64 (u : Int)),(6,.int .i64 k)] a ∧ MemOk X w0 [(1,.box B 115 [.slice p (b).length c,.int .i64 0]),(2,.dat (.slice p (b).length c) (.ns .u8 (b)))] w) (b.length) ?_ ?_
 · exact ⟨0,0,Nat.zero_le _,Nat.zero_le _,rfl,by decide,rfl,U.only [0,1,5,6],m0.only [1,2]⟩
 clear U m0
 rintro g Y w11 ⟨k,u,hkl,hk9,hg,hu,hD0,U,m11⟩
 refine wsk fun K2 hK2 =>?_
 refine regS U (.move rfl<|.move rfl<|.nilCheck rfl<|.fa 0 rfl U115<|.lb m11 1 U22 rfl rfl rfl<|.len rfl U22<|.lss rfl rfl .nil) fun Y U =>?_
 refine bc U 19 ?_ ?_
 ·
  intro hb19 U; try simp only [QQ,Qax] at hb19
  have hk : k < b.length := by omega
  have hxb := getD_bd hbb hk
  have hD := hD0
  rw [dec_at hk] at hD
  refine wct U ?_
  refine zss (hK2 _ _ ?_)
  refine wsk fun K3 hK3 =>?_
  refine wp_block ?_
  replace U := U.oz [0,1,5,6]
  refine zsr fun K4 hK4 =>?_
  refine goCh U (.move rfl<|.nilCheck rfl<|.fa 0 rfl U115<|.lb m11 1 U22 rfl rfl rfl<|.move rfl .nil) fun Y U =>?_
  obtain ⟨b32,o32,hp32,m32⟩ := m11.openN (i := 2) rfl (k) hk 100 rfl
  revert U
  cases hp32
  intro U
  refine gz hK4 U (.c rfl (fun _ h_ => y_idx h_ rfl rfl U22 fct15 (k) rfl hk)<|.loadC0 m32 (i := 100) rfl rfl U5 rfl<|.assign rfl<|.nil) fun Y U =>?_
  refine wsk fun K5 hK5 =>?_
  replace U := U.oz [0,1,5,6,7]
  refine zsr fun K6 hK6 =>?_
  refine goCh U (.move rfl<|.eql rfl rfl<|.move rfl .nil) fun Y U =>?_
  refine bc U 31 ?_ ?_
  ·
   intro hb43 U; try simp only [QQ,Qax] at hb43
   refine gz hK6 U (.moveZ rfl<|.gtrZ rfl rfl<|.pickT rfl rfl<|.nil) fun Y U =>?_
   refine bc U 34 ?_ ?_
   ·
    intro hb47 U; try simp only [QQ,Qax] at hb47
    have hN : numR b 0 mx = (0,[],20) := numR_err mx (by rw [← hD,if_pos (.inl ⟨by omega,by omega⟩)])
    refine wct U ?_
    replace U := U.oz [0,1,5,6,7]
    refine zsr fun K7 hK7 =>?_
    refine goCh U (.move rfl .nil) fun Y U =>?_
    refine plz (ecl U Tryz.func114 rfl (rfail_x _ _ _ _ _ _ (m32.into [(1,1)] (by decide) rfl)) ?_)
    rintro e w51 ⟨rfl,hm51⟩
    have mx51 := m32.back hm51 [(1,1)] (by decide); clear hm51 m32
    have m51 := mx51.oz [1,2,100]
    refine ⟨_,rfl,?_⟩; intro Y U
    refine znl (hK7 _ _ ?_)
    refine regS U (.assign rfl .nil) fun Y U =>?_
    refine rt1 U ?_
    have m54 := m51.dat 90 rfl (Rd.nilN _ _ .u8 none)
    rw [hN]
    exact ⟨_,_,rfl,m54.ren [(1,1),(2,90)] (by decide)⟩
   intro hb47 U; try simp only [QQ,Qax] at hb47
   have h9 : k = 9 → (b.getD k 0) ≤ 1 := by omega
   obtain ⟨v,hv⟩ : ∃ v,u + ((b.getD k 0) % 128).toNat * 2 ^ (7 * k) = v := ⟨_,rfl⟩
   refine wcf U ?_
   refine zss (hK5 _ _ ?_)
   replace U := U.oz [0,1,5,6,7]
   refine regS U (.move rfl<|.move rfl<|.and rfl rfl (r := (b.getD k 0) % 128) (andx hxb.1 hxb.2)<|.conv rfl U5 U108 (r := (b.getD k 0) % 128) (IntWalk.u64_in _ (by omega))<|.move rfl<|.mul rfl rfl (r := 7 * (k : Int)) (IntWalk.i64_in _ (by omega))<|.shl rfl rfl (by omega) (r := IntKind.u64.wrap ((b.getD k 0) % 128 * 2 ^ (7 * k))) (by rw [shx hk9])<|.or rfl rfl (r := (v : Int)) (by rw [← hv]; exact or_shift u k (b.getD k 0) hu hk9 hxb.1 hxb.2 h9)<|.assign rfl .nil) fun Y U =>?_
   replace U := U.oz [0,1,5,6,7]
   refine regS U (.move rfl<|.lss rfl rfl .nil) fun Y U =>?_
   refine bc U 46 ?_ ?_
   ·
    intro hb68 U; try simp only [QQ,Qax] at hb68
    refine wct U ?_
    refine wsk fun K8 hK8 =>?_
    refine zsr fun K9 hK9 =>?_
    refine goCh U (.move rfl<|.gtr rfl rfl<|.move rfl .nil) fun Y U =>?_
    refine bc U 49 ?_ ?_
    ·
     intro hb75 U; try simp only [QQ,Qax] at hb75
     refine gz hK9 U (.moveZ rfl<|.eqlZ rfl rfl<|.pickT rfl rfl<|.nil) fun Y U =>?_
     refine bc U 52 ?_ ?_
     ·
      intro hb79 U; try simp only [QQ,Qax] at hb79
      have hN : numR b 0 mx = (0,[],20) := numR_err mx (by rw [← hD,if_pos (.inr ⟨by omega,by omega⟩)])
      refine wct U ?_
      replace U := U.oz [0,1,5,6]
      refine zsr fun K10 hK10 =>?_
      refine goCh U (.move rfl .nil) fun Y U =>?_
      refine plz (ecl U Tryz.func114 rfl (rfail_x _ _ _ _ _ _ (m32.into [(1,1)] (by decide) rfl)) ?_)
      rintro e w83 ⟨rfl,hm83⟩
      have mx83 := m32.back hm83 [(1,1)] (by decide); clear hm83 m32
      have m83 := mx83.oz [1,2,100]
      refine ⟨_,rfl,?_⟩; intro Y U
      refine znl (hK10 _ _ ?_)
      refine regS U (.assign rfl .nil) fun Y U =>?_
      refine rt1 U ?_
      have m86 := m83.dat 90 rfl (Rd.nilN _ _ .u8 none)
      rw [hN]
      exact ⟨_,_,rfl,m86.ren [(1,1),(2,90)] (by decide)⟩
     intro hb79 U; try simp only [QQ,Qax] at hb79
     have hz : ¬ (0 < k ∧ (b.getD k 0) = 0) := by omega
     have hno : ¬ ((k = 9 ∧ 1 < (b.getD k 0)) ∨ (0 < k ∧ (b.getD k 0) = 0)) := fun h => h.elim (fun h => by have := h9 h.1; omega) hz
     have hO : dec 0 0 b = .ok v (k + 1) := by rw [← hD,if_neg hno,if_pos (by omega),hv]
     refine wcf U ?_
     refine zss (hK8 _ _ ?_)
     refine wsk fun K11 hK11 =>?_
     replace U := U.oz [0,1,5,6]
     refine regS U (.move rfl<|.move rfl<|.gtr rfl rfl .nil) fun Y U =>?_
     refine bc U 57 ?_ ?_
     ·
      intro hb91 U; try simp only [QQ,Qax] at hb91
      have hN : numR b 0 mx = (0,[],22) := by rw [numR_val mx hO,if_pos (by omega)]
      refine wct U ?_
      refine zsr fun K12 hK12 =>?_
      refine goCh U (.move rfl .nil) fun Y U =>?_
      refine plz (ecl U Tryz.func114 rfl (rfail_x _ _ _ _ _ _ (m32.into [(1,1)] (by decide) rfl)) ?_)
      rintro e w94 ⟨rfl,hm94⟩
      have mx94 := m32.back hm94 [(1,1)] (by decide); clear hm94 m32
      have m94 := mx94.oz [1,2,100]
      refine ⟨_,rfl,?_⟩; intro Y U
      refine znl (hK12 _ _ ?_)
      refine regS U (.assign rfl .nil) fun Y U =>?_
      refine rt1 U ?_
      have m97 := m94.dat 90 rfl (Rd.nilN _ _ .u8 none)
      rw [hN]
      exact ⟨_,_,rfl,m97.ren [(1,1),(2,90)] (by decide)⟩
     intro hb91 U; try simp only [QQ,Qax] at hb91
     have hN : numR b 0 mx = ((v : Int),b.drop (k + 1),0) := by rw [numR_val mx hO,if_neg (by omega)]
     refine wcf U ?_
     refine zss (hK11 _ _ ?_)
     refine zsr fun K13 hK13 =>?_
     refine goCh U (.move rfl<|.move rfl<|.nilCheck rfl<|.fa 0 rfl U115<|.lb m32 1 U22 rfl rfl rfl<|.move rfl<|.inc (k + 1) .nil) fun Y U =>?_
     have m113 := m32.dropN (i := 2) rfl (k + 1) (show k + 1 ≤ b.length by omega) 101 rfl
     refine goCh U (.c rfl (fun _ h_ => y_sliceLn h_ (k + 1) rfl rfl U22 fct15 rfl (show k + 1 ≤ b.length by omega))<|.nilCheck rfl<|.fa 0 rfl U115 .nil) fun Y U =>?_
     refine plz (st1 U m113 1 fct2 fun w117 m117 _ =>?_)
     refine znl (hK13 _ _ ?_)
     replace U := U.oz [0,1,5,6,57]
     refine regS U (.move rfl<|.assign rfl .nil) fun Y U =>?_
     refine rt1 U ?_
     have hl9 : b.length - (k + 1) = (b.drop (k + 1)).length := by rw [List.length_drop]
     rw [hl9] at m117
     rw [hN]
     exact ⟨_,_,rfl,m117.ren [(1,1),(2,101)] (by decide)⟩
    intro hb75 U; try simp only [QQ,Qax] at hb75
    have hz : ¬ (0 < k ∧ (b.getD k 0) = 0) := by omega
    have hno : ¬ ((k = 9 ∧ 1 < (b.getD k 0)) ∨ (0 < k ∧ (b.getD k 0) = 0)) := fun h => h.elim (fun h => by have := h9 h.1; omega) hz
    have hO : dec 0 0 b = .ok v (k + 1) := by rw [← hD,if_neg hno,if_pos (by omega),hv]
    refine gz hK9 U (.sk<|.sk<|.pickF rfl rfl<|.nil) fun Y U =>?_
    refine wcf U ?_
    refine zss (hK8 _ _ ?_)
    refine wsk fun K14 hK14 =>?_
    replace U := U.oz [0,1,5,6]
    refine regS U (.move rfl<|.move rfl<|.gtr rfl rfl .nil) fun Y U =>?_
    refine bc U 57 ?_ ?_
    ·
     intro hb128 U; try simp only [QQ,Qax] at hb128
     have hN : numR b 0 mx = (0,[],22) := by rw [numR_val mx hO,if_pos (by omega)]
     refine wct U ?_
     refine zsr fun K15 hK15 =>?_
     refine goCh U (.move rfl .nil) fun Y U =>?_
     refine plz (ecl U Tryz.func114 rfl (rfail_x _ _ _ _ _ _ (m32.into [(1,1)] (by decide) rfl)) ?_)
     rintro e w131 ⟨rfl,hm131⟩
     have mx131 := m32.back hm131 [(1,1)] (by decide); clear hm131 m32
     have m131 := mx131.oz [1,2,100]
     refine ⟨_,rfl,?_⟩; intro Y U
     refine znl (hK15 _ _ ?_)
     refine regS U (.assign rfl .nil) fun Y U =>?_
     refine rt1 U ?_
     have m134 := m131.dat 90 rfl (Rd.nilN _ _ .u8 none)
     rw [hN]
     exact ⟨_,_,rfl,m134.ren [(1,1),(2,90)] (by decide)⟩
    intro hb128 U; try simp only [QQ,Qax] at hb128
    have hN : numR b 0 mx = ((v : Int),b.drop (k + 1),0) := by rw [numR_val mx hO,if_neg (by omega)]
    refine wcf U ?_
    refine zss (hK14 _ _ ?_)
    refine zsr fun K16 hK16 =>?_
    refine goCh U (.move rfl<|.move rfl<|.nilCheck rfl<|.fa 0 rfl U115<|.lb m32 1 U22 rfl rfl rfl<|.move rfl<|.inc (k + 1) .nil) fun Y U =>?_
    have m150 := m32.dropN (i := 2) rfl (k + 1) (show k + 1 ≤ b.length by omega) 101 rfl
    refine goCh U (.c rfl (fun _ h_ => y_sliceLn h_ (k + 1) rfl rfl U22 fct15 rfl (show k + 1 ≤ b.length by omega))<|.nilCheck rfl<|.fa 0 rfl U115 .nil) fun Y U =>?_
    refine plz (st1 U m150 1 fct2 fun w154 m154 _ =>?_)
    refine znl (hK16 _ _ ?_)
    replace U := U.oz [0,1,5,6,57]
    refine regS U (.move rfl<|.assign rfl .nil) fun Y U =>?_
    refine rt1 U ?_
    have hl9 : b.length - (k + 1) = (b.drop (k + 1)).length := by rw [List.length_drop]
    rw [hl9] at m154
    rw [hN]
    exact ⟨_,_,rfl,m154.ren [(1,1),(2,101)] (by decide)⟩
   intro hb68 U; try simp only [QQ,Qax] at hb68
   have hz : ¬ (0 < k ∧ (b.getD k 0) = 0) := by omega
   have hno : ¬ ((k = 9 ∧ 1 < (b.getD k 0)) ∨ (0 < k ∧ (b.getD k 0) = 0)) := fun h => h.elim (fun h => by have := h9 h.1; omega) hz
   refine wcf U ?_
   refine zss (hK3 _ _ ?_)
   refine wp_region_lit ?_
   refine goCh U (.move rfl<|.inc (k + 1)<|.assign rfl .nil) fun Y U =>?_
   refine wpList_nil ?_
   show ∃ n',n' < _ ∧ _
   exact ⟨b.length - (k + 1),by omega,k + 1,v,by omega,by omega,rfl,by rw [← hv]; exact acc_bound u k (b.getD k 0) hu,by rw [← hD,if_neg hno,if_neg (by omega),hv],U.only [0,1,5,6],m32.only [1,2]⟩
  intro hb43 U; try simp only [QQ,Qax] at hb43
  have h9 : k = 9 → (b.getD k 0) ≤ 1 := by omega
  obtain ⟨v,hv⟩ : ∃ v,u + ((b.getD k 0) % 128).toNat * 2 ^ (7 * k) = v := ⟨_,rfl⟩
  refine gz hK6 U (.sk<|.sk<|.pickF rfl rfl<|.nil) fun Y U =>?_
  refine wcf U ?_
  refine zss (hK5 _ _ ?_)
  replace U := U.oz [0,1,5,6,7]
  refine regS U (.move rfl<|.move rfl<|.and rfl rfl (r := (b.getD k 0) % 128) (andx hxb.1 hxb.2)<|.conv rfl U5 U108 (r := (b.getD k 0) % 128) (IntWalk.u64_in _ (by omega))<|.move rfl<|.mul rfl rfl (r := 7 * (k : Int)) (IntWalk.i64_in _ (by omega))<|.shl rfl rfl (by omega) (r := IntKind.u64.wrap ((b.getD k 0) % 128 * 2 ^ (7 * k))) (by rw [shx hk9])<|.or rfl rfl (r := (v : Int)) (by rw [← hv]; exact or_shift u k (b.getD k 0) hu hk9 hxb.1 hxb.2 h9)<|.assign rfl .nil) fun Y U =>?_
  replace U := U.oz [0,1,5,6,7]
  refine regS U (.move rfl<|.lss rfl rfl .nil) fun Y U =>?_
  refine bc U 46 ?_ ?_
  ·
   intro hb177 U; try simp only [QQ,Qax] at hb177
   refine wct U ?_
   refine wsk fun K17 hK17 =>?_
   refine zsr fun K18 hK18 =>?_
   refine goCh U (.move rfl<|.gtr rfl rfl<|.move rfl .nil) fun Y U =>?_
   refine bc U 49 ?_ ?_
   ·
    intro hb184 U; try simp only [QQ,Qax] at hb184
    refine gz hK18 U (.moveZ rfl<|.eqlZ rfl rfl<|.pickT rfl rfl<|.nil) fun Y U =>?_
    refine bc U 52 ?_ ?_
    ·
     intro hb188 U; try simp only [QQ,Qax] at hb188
     have hN : numR b 0 mx = (0,[],20) := numR_err mx (by rw [← hD,if_pos (.inr ⟨by omega,by omega⟩)])
     refine wct U ?_
     replace U := U.oz [0,1,5,6]
     refine zsr fun K19 hK19 =>?_
     refine goCh U (.move rfl .nil) fun Y U =>?_
     refine plz (ecl U Tryz.func114 rfl (rfail_x _ _ _ _ _ _ (m32.into [(1,1)] (by decide) rfl)) ?_)
     rintro e w192 ⟨rfl,hm192⟩
     have mx192 := m32.back hm192 [(1,1)] (by decide); clear hm192 m32
     have m192 := mx192.oz [1,2,100]
     refine ⟨_,rfl,?_⟩; intro Y U
     refine znl (hK19 _ _ ?_)
     refine regS U (.assign rfl .nil) fun Y U =>?_
     refine rt1 U ?_
     have m195 := m192.dat 90 rfl (Rd.nilN _ _ .u8 none)
     rw [hN]
     exact ⟨_,_,rfl,m195.ren [(1,1),(2,90)] (by decide)⟩
    intro hb188 U; try simp only [QQ,Qax] at hb188
    have hz : ¬ (0 < k ∧ (b.getD k 0) = 0) := by omega
    have hno : ¬ ((k = 9 ∧ 1 < (b.getD k 0)) ∨ (0 < k ∧ (b.getD k 0) = 0)) := fun h => h.elim (fun h => by have := h9 h.1; omega) hz
    have hO : dec 0 0 b = .ok v (k + 1) := by rw [← hD,if_neg hno,if_pos (by omega),hv]
    refine wcf U ?_
    refine zss (hK17 _ _ ?_)
    refine wsk fun K20 hK20 =>?_
    replace U := U.oz [0,1,5,6]
    refine regS U (.move rfl<|.move rfl<|.gtr rfl rfl .nil) fun Y U =>?_
    refine bc U 57 ?_ ?_
    ·
     intro hb200 U; try simp only [QQ,Qax] at hb200
     have hN : numR b 0 mx = (0,[],22) := by rw [numR_val mx hO,if_pos (by omega)]
     refine wct U ?_
     refine zsr fun K21 hK21 =>?_
     refine goCh U (.move rfl .nil) fun Y U =>?_
     refine plz (ecl U Tryz.func114 rfl (rfail_x _ _ _ _ _ _ (m32.into [(1,1)] (by decide) rfl)) ?_)
     rintro e w203 ⟨rfl,hm203⟩
     have mx203 := m32.back hm203 [(1,1)] (by decide); clear hm203 m32
     have m203 := mx203.oz [1,2,100]
     refine ⟨_,rfl,?_⟩; intro Y U
     refine znl (hK21 _ _ ?_)
     refine regS U (.assign rfl .nil) fun Y U =>?_
     refine rt1 U ?_
     have m206 := m203.dat 90 rfl (Rd.nilN _ _ .u8 none)
     rw [hN]
     exact ⟨_,_,rfl,m206.ren [(1,1),(2,90)] (by decide)⟩
    intro hb200 U; try simp only [QQ,Qax] at hb200
    have hN : numR b 0 mx = ((v : Int),b.drop (k + 1),0) := by rw [numR_val mx hO,if_neg (by omega)]
    refine wcf U ?_
    refine zss (hK20 _ _ ?_)
    refine zsr fun K22 hK22 =>?_
    refine goCh U (.move rfl<|.move rfl<|.nilCheck rfl<|.fa 0 rfl U115<|.lb m32 1 U22 rfl rfl rfl<|.move rfl<|.inc (k + 1) .nil) fun Y U =>?_
    have m222 := m32.dropN (i := 2) rfl (k + 1) (show k + 1 ≤ b.length by omega) 101 rfl
    refine goCh U (.c rfl (fun _ h_ => y_sliceLn h_ (k + 1) rfl rfl U22 fct15 rfl (show k + 1 ≤ b.length by omega))<|.nilCheck rfl<|.fa 0 rfl U115 .nil) fun Y U =>?_
    refine plz (st1 U m222 1 fct2 fun w226 m226 _ =>?_)
    refine znl (hK22 _ _ ?_)
    replace U := U.oz [0,1,5,6,57]
    refine regS U (.move rfl<|.assign rfl .nil) fun Y U =>?_
    refine rt1 U ?_
    have hl9 : b.length - (k + 1) = (b.drop (k + 1)).length := by rw [List.length_drop]
    rw [hl9] at m226
    rw [hN]
    exact ⟨_,_,rfl,m226.ren [(1,1),(2,101)] (by decide)⟩
   intro hb184 U; try simp only [QQ,Qax] at hb184
   have hz : ¬ (0 < k ∧ (b.getD k 0) = 0) := by omega
   have hno : ¬ ((k = 9 ∧ 1 < (b.getD k 0)) ∨ (0 < k ∧ (b.getD k 0) = 0)) := fun h => h.elim (fun h => by have := h9 h.1; omega) hz
   have hO : dec 0 0 b = .ok v (k + 1) := by rw [← hD,if_neg hno,if_pos (by omega),hv]
   refine gz hK18 U (.sk<|.sk<|.pickF rfl rfl<|.nil) fun Y U =>?_
   refine wcf U ?_
   refine zss (hK17 _ _ ?_)
   refine wsk fun K23 hK23 =>?_
   replace U := U.oz [0,1,5,6]
   refine regS U (.move rfl<|.move rfl<|.gtr rfl rfl .nil) fun Y U =>?_
   refine bc U 57 ?_ ?_
   ·
    intro hb237 U; try simp only [QQ,Qax] at hb237
    have hN : numR b 0 mx = (0,[],22) := by rw [numR_val mx hO,if_pos (by omega)]
    refine wct U ?_
    refine zsr fun K24 hK24 =>?_
    refine goCh U (.move rfl .nil) fun Y U =>?_
    refine plz (ecl U Tryz.func114 rfl (rfail_x _ _ _ _ _ _ (m32.into [(1,1)] (by decide) rfl)) ?_)
    rintro e w240 ⟨rfl,hm240⟩
    have mx240 := m32.back hm240 [(1,1)] (by decide); clear hm240 m32
    have m240 := mx240.oz [1,2,100]
    refine ⟨_,rfl,?_⟩; intro Y U
    refine znl (hK24 _ _ ?_)
    refine regS U (.assign rfl .nil) fun Y U =>?_
    refine rt1 U ?_
    have m243 := m240.dat 90 rfl (Rd.nilN _ _ .u8 none)
    rw [hN]
    exact ⟨_,_,rfl,m243.ren [(1,1),(2,90)] (by decide)⟩
   intro hb237 U; try simp only [QQ,Qax] at hb237
   have hN : numR b 0 mx = ((v : Int),b.drop (k + 1),0) := by rw [numR_val mx hO,if_neg (by omega)]
   refine wcf U ?_
   refine zss (hK23 _ _ ?_)
   refine zsr fun K25 hK25 =>?_
   refine goCh U (.move rfl<|.move rfl<|.nilCheck rfl<|.fa 0 rfl U115<|.lb m32 1 U22 rfl rfl rfl<|.move rfl<|.inc (k + 1) .nil) fun Y U =>?_
   have m259 := m32.dropN (i := 2) rfl (k + 1) (show k + 1 ≤ b.length by omega) 101 rfl
   refine goCh U (.c rfl (fun _ h_ => y_sliceLn h_ (k + 1) rfl rfl U22 fct15 rfl (show k + 1 ≤ b.length by omega))<|.nilCheck rfl<|.fa 0 rfl U115 .nil) fun Y U =>?_
   refine plz (st1 U m259 1 fct2 fun w263 m263 _ =>?_)
   refine znl (hK25 _ _ ?_)
   replace U := U.oz [0,1,5,6,57]
   refine regS U (.move rfl<|.assign rfl .nil) fun Y U =>?_
   refine rt1 U ?_
   have hl9 : b.length - (k + 1) = (b.drop (k + 1)).length := by rw [List.length_drop]
   rw [hl9] at m263
   rw [hN]
   exact ⟨_,_,rfl,m263.ren [(1,1),(2,101)] (by decide)⟩
  intro hb177 U; try simp only [QQ,Qax] at hb177
  have hz : ¬ (0 < k ∧ (b.getD k 0) = 0) := by omega
  have hno : ¬ ((k = 9 ∧ 1 < (b.getD k 0)) ∨ (0 < k ∧ (b.getD k 0) = 0)) := fun h => h.elim (fun h => by have := h9 h.1; omega) hz
  refine wcf U ?_
  refine zss (hK3 _ _ ?_)
  refine wp_region_lit ?_
  refine goCh U (.move rfl<|.inc (k + 1)<|.assign rfl .nil) fun Y U =>?_
  refine wpList_nil ?_
  show ∃ n',n' < _ ∧ _
  exact ⟨b.length - (k + 1),by omega,k + 1,v,by omega,by omega,rfl,by rw [← hv]; exact acc_bound u k (b.getD k 0) hu,by rw [← hD,if_neg hno,if_neg (by omega),hv],U.only [0,1,5,6],m32.only [1,2]⟩
 intro hb19 U; try simp only [QQ,Qax] at hb19
 revert U
 obtain rfl : k = b.length := by omega
 intro U
 have hN : numR b 0 mx = (0,[],21) := numR_err mx (by rw [← hD0,List.drop_length]; rfl)
 refine wcf U ?_
 refine wp_exit ?_
 refine hK1 _ _ ?_
 replace U := U.oz [0,1,5,6]
 refine zsr fun K26 hK26 =>?_
 refine goCh U (.move rfl .nil) fun Y U =>?_
 refine plz (ecl U Tryz.func114 rfl (rfail_x _ _ _ _ _ _ (m11.into [(1,1)] (by decide) rfl)) ?_)
 rintro e w273 ⟨rfl,hm273⟩
 have mx273 := m11.back hm273 [(1,1)] (by decide); clear hm273 m11
 have m273 := mx273.oz [1,2]
 refine ⟨_,rfl,?_⟩; intro Y U
 refine znl (hK26 _ _ ?_)
 refine regS U (.assign rfl .nil) fun Y U =>?_
 refine rt1 U ?_
 have m276 := m273.dat 90 rfl (Rd.nilN _ _ .u8 none)
 rw [hN]
 exact ⟨_,_,rfl,m276.ren [(1,1),(2,90)] (by decide)⟩
theorem rnum_ok (X : Cx) (B : Nat) (b : List Int) (mx : Int) (p : Option Addr) (c : Nat) (w0 : World) (x : Int) (rest : List Int) (hb : b.length ≤ 1000000) (hbb : BytesL b) (hbe : b = enc x ++ rest) (hmx : mx ≤ 18446744073709551615) (hx : 0 ≤ x ∧ x ≤ mx) (m0 : MemOk X w0 [(1,.box B 115 [.slice p (b).length c,.int .i64 0]),(2,.dat (.slice p (b).length c) (.ns .u8 (b)))] w0) :
   Calls Tryz.prog 65 #[.pointer (some ⟨B,0,none⟩),.int .u64 mx] w0 fun e w' => ∃ (p' : Option Addr) (c' : Nat),e = .returned (.int .u64 x) ∧ MemOk X w0 [(1,.box B 115 [.slice p' (rest).length c',.int .i64 0]),(2,.dat (.slice p' (rest).length c') (.ns .u8 (rest)))] w' := by
 have h := rnum_x X B b 0 mx p c w0 hb hbb m0
 have hN : numR b 0 mx = (x,rest,0) := by rw [hbe]; exact numR_ok x hx.1 (by omega) rest mx hx.2
 rw [hN] at h
 exact h
theorem rtakePlace_x (X : Cx) (B : Nat) (b : List Int) (p : Option Addr) (c : Nat) (w0 : World) (pl rest : List Int) (hb : b.length ≤ 1000000) (hbb : BytesL b) (hbe : b = enc pl.length ++ (encs pl ++ rest)) (hpl : pl.length ≤ 256) (hpb : ∀ k,k < pl.length → 0 ≤ pl.getD k 0 ∧ pl.getD k 0 ≤ 8) (m0 : MemOk X w0 [(1,.box B 115 [.slice p (b).length c,.int .i64 0]),(2,.dat (.slice p (b).length c) (.ns .u8 (b)))] w0) :
   Calls Tryz.prog 77 #[.pointer (some ⟨B,0,none⟩)] w0 fun e w' => ∃ (p' : Option Addr) (c' : Nat) (p3 : Option Addr) (c3 : Nat),e = .returned (.slice p3 pl.length c3) ∧ MemOk X w0 [(1,.box B 115 [.slice p' (rest).length c',.int .i64 0]),(2,.dat (.slice p' (rest).length c') (.ns .u8 (rest))),(3,.dat (.slice p3 pl.length c3) (.ns .i64 pl))] w' := by
 refine ent1 Tryz.func77 rfl Tryz.ntmps77 fun Y U =>?_
 refine regS U (.assign rfl .nil) fun Y U =>?_
 refine regS U (.assign rfl .nil) fun Y U =>?_
 refine zsr fun K0 hK0 =>?_
 refine goCh U (.move rfl .nil) fun Y U =>?_
 refine plz (ecl U Tryz.func65 rfl (rnum_ok _ _ _ 256 _ _ _ (pl.length : Int) (encs pl ++ rest) hb hbb hbe (by decide) (by omega) (m0.into [(1,1),(2,2)] (by decide) rfl)) ?_)
 rintro e w5 ⟨p5,c5,rfl,hm5⟩
 have mx5 := m0.back hm5 [(1,1),(2,2)] (by decide); clear hm5 m0
 have m5 := mx5.oz [1,2]
 refine ⟨_,rfl,?_⟩; intro Y U
 refine gz hK0 U (.assign rfl .nil) fun Y U =>?_
 refine wsk fun K1 hK1 =>?_
 refine regS U (.assign rfl .nil) fun Y U =>?_
 refine wp_block ?_
 refine wp_loop_ghost (fun g a w => ∃ (k : Nat) (p1 : Option Addr) (c1 : Nat) (p3 : Option Addr) (c3 : Nat),k ≤ pl.length ∧ g = pl.length - k ∧ (encs (pl.drop k) ++ rest).length ≤ 1000000 ∧ BytesL (encs (pl.drop k) ++ rest) ∧ Has 27 [(0,.pointer (some ⟨B,0,none⟩)),(3,.slice p3 (pl.take k).length c3),(4,.int .u64 (pl.length : Int)),(5,.int .u64 (k : Int))] a ∧ MemOk X w0 [(1,.box B 115 [.slice p1 (encs (pl.drop k) ++ rest).length c1,.int .i64 0]),(2,.dat (.slice p1 (encs (pl.drop k) ++ rest).length c1) (.ns .u8 (encs (pl.drop k) ++ rest))),(9,.num (.slice p3 (pl.take k).length c3) 3 .i64 (pl.take k))] w) (pl.length) ?_ ?_
 · have mz := m5.nilN 9 3 .i64
   exact ⟨0,_,_,_,_,Nat.zero_le _,rfl,by rw [hbe,List.length_append] at hb; simpa using (by omega : (encs pl ++ rest).length ≤ 1000000),bytes_r (by rw [hbe] at hbb; exact hbb),U.only [0,3,4,5],mz.only [1,2,9]⟩
 clear U m5
 rintro g Y w9 ⟨k,p1,c1,p3,c3,hkl,hg,hb1,hbb1,U,m9⟩
 refine wsk fun K2 hK2 =>?_
 refine zsr fun K3 hK3 =>?_
 refine goCh U (.move rfl<|.move rfl<|.lss rfl rfl<|.move rfl .nil) fun Y U =>?_
 refine bc U 11 ?_ ?_
 ·
  intro hb18 U; try simp only [QQ,Qax] at hb18
  have hk : k < pl.length := by omega
  refine gz hK3 U (.moveZ rfl<|.nilCheckZ rfl<|.faZ 1 rfl U115<|.loadB1Z m9 (i := 1) rfl rfl rfl U3 rfl<|.eqlZ rfl rfl<|.pickT rfl rfl<|.nil) fun Y U =>?_
  refine bc U 17 ?_ ?_
  rotate_left
  · intro hb _; exact absurd hb (by simp)
  clear U; intro _ U
  refine wct U ?_
  refine zss (hK2 _ _ ?_)
  refine wsk fun K4 hK4 =>?_
  refine wp_block ?_
  replace U := U.oz [0,3,4,5]
  refine wp_region_lit ?_
  refine goCh U (.move rfl<|.move rfl .nil) fun Y U =>?_
  refine plz (ecl U Tryz.func65 rfl (rnum_ok _ _ _ 8 _ _ _ (pl.getD k 0) (encs (pl.drop (k + 1)) ++ rest) hb1 hbb1 (by rw [encs_drop hk,List.append_assoc]) (by decide) (hpb k hk) (m9.into [(1,1),(2,2)] (by decide) rfl)) ?_)
  rintro e w29 ⟨p29,c29,rfl,hm29⟩
  have mx29 := m9.back hm29 [(1,1),(2,2)] (by decide); clear hm29 m9
  have m29 := mx29.oz [1,2,9]
  refine ⟨_,rfl,?_⟩; intro Y U
  refine goCh U (.conv rfl U108 U3 (r := pl.getD k 0) (IntWalk.i64_in _ (by have := hpb k hk; omega)) .nil) fun Y U =>?_
  refine plz (e_litN U m29 100 (k := .i64) rfl rfl U35 fct16 rfl rfl rfl rfl fun g32 Y w33 U m33 =>?_)
  refine plz (e_appN U m33 9 rfl rfl rfl (m33.numsO (i := 100) rfl) U35 fct16 (by decide) (by simp; omega) rfl fun p34 c34 Y w35 U m35 =>?_)
  refine gz hK4 U (.assign rfl .nil) fun Y U =>?_
  replace U := U.oz [0,3,4,5]
  refine wp_region_lit ?_
  refine goCh U (.move rfl<|.add rfl rfl (r := ((k + 1 : Nat) : Int)) (by rw [IntWalk.u64_in _ (by omega)]; omega)<|.assign rfl .nil) fun Y U =>?_
  refine wpList_nil ?_
  show ∃ n',n' < _ ∧ _
  have hE : pl.take k ++ [pl.getD k 0] = pl.take (k + 1) := (take_getD hk).symm
  rw [hE] at m35 U
  exact ⟨pl.length - (k + 1),by omega,k + 1,_,_,_,_,by omega,rfl,by rw [encs_drop hk,List.append_assoc,List.length_append] at hb1; omega,bytes_r (by rw [encs_drop hk,List.append_assoc] at hbb1; exact hbb1),U.only [0,3,4,5],m35.only [1,2,9]⟩
 intro hb18 U; try simp only [QQ,Qax] at hb18
 revert U
 obtain rfl : k = pl.length := by omega
 intro U
 refine gz hK3 U (.sk<|.sk<|.sk<|.sk<|.sk<|.pickF rfl rfl<|.nil) fun Y U =>?_
 refine wcf U ?_
 refine wp_exit ?_
 refine hK1 _ _ ?_
 replace U := U.oz [0,3,4,5]
 refine regS U (.move rfl<|.assign rfl .nil) fun Y U =>?_
 refine rt1 U ?_
 have m50 := m9.freezeN 9 rfl
 rw [List.drop_length,List.take_length,show encs [] ++ rest = rest from rfl] at m50
 rw [List.take_length]
 exact ⟨_,_,_,_,rfl,m50.ren [(1,1),(2,2),(3,9)] (by decide)⟩
theorem rlump_ok (X : Cx) (B : Nat) (b : List Int) (mx : Int) (p : Option Addr) (c : Nat) (w0 : World) (d rest : List Int) (hb : b.length ≤ 1000000) (hbb : BytesL b) (hbe : b = enc d.length ++ (d ++ rest)) (hmx : 0 ≤ mx ∧ mx ≤ 1000000) (hd : (d.length : Int) ≤ mx) (m0 : MemOk X w0 [(1,.box B 115 [.slice p (b).length c,.int .i64 0]),(2,.dat (.slice p (b).length c) (.ns .u8 (b)))] w0) :
   Calls Tryz.prog 120 #[.pointer (some ⟨B,0,none⟩),.int .i64 mx] w0 fun e w' => ∃ (p' : Option Addr) (c' : Nat) (p3 : Option Addr) (c3 : Nat),e = .returned (.slice p3 d.length c3) ∧ MemOk X w0 [(1,.box B 115 [.slice p' (rest).length c',.int .i64 0]),(2,.dat (.slice p' (rest).length c') (.ns .u8 (rest))),(3,.dat (.slice p3 d.length c3) (.ns .u8 d))] w' := by
 refine ent2 Tryz.func120 rfl Tryz.ntmps120 fun Y U =>?_
 have hun : d.length ≤ (d ++ rest).length := by rw [List.length_append]; omega
 refine regS U (.assign rfl .nil) fun Y U =>?_
 refine zsr fun K0 hK0 =>?_
 refine goCh U (.move rfl<|.move rfl<|.c rfl (fun _ h_ => y_max h_ rfl rfl (r := mx) (by omega))<|.conv rfl U3 U108 (r := mx) (IntWalk.u64_in _ (by omega)) .nil) fun Y U =>?_
 refine plz (ecl U Tryz.func65 rfl (rnum_ok _ _ _ mx _ _ _ (d.length : Int) (d ++ rest) hb hbb hbe (by omega) (by omega) (m0.into [(1,1),(2,2)] (by decide) rfl)) ?_)
 rintro e w10 ⟨p10,c10,rfl,hm10⟩
 have mx10 := m0.back hm10 [(1,1),(2,2)] (by decide); clear hm10 m0
 have m10 := mx10.oz [1,2]
 refine ⟨_,rfl,?_⟩; intro Y U
 refine gz hK0 U (.assign rfl .nil) fun Y U =>?_
 refine wsk fun K1 hK1 =>?_
 replace U := U.oz [0,4,5]
 refine regS U (.move rfl<|.nilCheck rfl<|.fa 1 rfl U115<|.lb m10 1 U3 rfl rfl rfl<|.neq rfl rfl .nil) fun Y U =>?_
 refine bc U 16 ?_ ?_
 · intro hb _; exact absurd hb (by simp)
 clear U; intro _ U
 refine wcf U ?_
 refine zss (hK1 _ _ ?_)
 refine wsk fun K2 hK2 =>?_
 refine regS U (.move rfl<|.move rfl<|.nilCheck rfl<|.fa 0 rfl U115<|.lb m10 1 U22 rfl rfl rfl<|.len rfl U22<|.conv rfl U3 U108 (r := ((d ++ rest).length : Int)) (IntWalk.u64_in _ (by rw [hbe,List.length_append] at hb; omega))<|.gtr rfl rfl .nil) fun Y U =>?_
 refine bc U 24 ?_ ?_
 · intro hb _; exact absurd hb (by simp; omega)
 clear U; intro _ U
 refine wcf U ?_
 refine zss (hK2 _ _ ?_)
 replace U := U.oz [0,4,5]
 refine zsr fun K3 hK3 =>?_
 refine goCh U (.move rfl<|.nilCheck rfl<|.fa 0 rfl U115<|.lb m10 1 U22 rfl rfl rfl<|.move rfl .nil) fun Y U =>?_
 have hcap41 := (m10.rd (i := 2) rfl).ns_out.cap
 have m41 := m10.takeN (i := 2) rfl d.length hun 20 rfl
 refine gz hK3 U (.c rfl (fun _ h_ => y_sliceHn h_ d.length rfl rfl U22 fct15 rfl (Nat.le_trans hun hcap41.1))<|.assign rfl<|.nil) fun Y U =>?_
 replace U := U.oz [0,4,5,6]
 refine zsr fun K4 hK4 =>?_
 refine goCh U (.move rfl<|.move rfl<|.nilCheck rfl<|.fa 0 rfl U115<|.lb m41 1 U22 rfl rfl rfl<|.move rfl .nil) fun Y U =>?_
 have m58 := m41.dropN (i := 2) rfl d.length hun 21 rfl
 refine goCh U (.c rfl (fun _ h_ => y_sliceLn h_ d.length rfl rfl U22 fct15 rfl hun)<|.nilCheck rfl<|.fa 0 rfl U115 .nil) fun Y U =>?_
 refine plz (st1 U m58 1 fct2 fun w62 m62 _ =>?_)
 refine znl (hK4 _ _ ?_)
 replace U := U.oz [4,6]
 refine regS U (.move rfl<|.assign rfl .nil) fun Y U =>?_
 refine rt1 U ?_
 have e1 : (d ++ rest).take d.length = d := List.take_left
 have e2 : (d ++ rest).drop d.length = rest := List.drop_left
 have e3 : (d ++ rest).length - d.length = rest.length := by rw [List.length_append]; omega
 rw [e1,e2,e3] at m62
 exact ⟨_,_,_,_,rfl,m62.ren [(1,1),(2,21),(3,20)] (by decide)⟩
theorem rtakeItems_x (X : Cx) (B : Nat) (b : List Int) (p : Option Addr) (c : Nat) (w0 : World) (es : List (Int × List Int)) (rest : List Int) (hb : b.length ≤ 1000000) (hbb : BytesL b) (hbe : b = enc es.length ++ (itemsE es ++ rest)) (hel : es.length ≤ 8) (hok : ∀ e ∈ es,(0 ≤ e.1 ∧ e.1 ≤ 256) ∧ (e.2.length : Int) ≤ 32) (m0 : MemOk X w0 [(1,.box B 115 [.slice p (b).length c,.int .i64 0]),(2,.dat (.slice p (b).length c) (.ns .u8 (b)))] w0) :
   Calls Tryz.prog 78 #[.pointer (some ⟨B,0,none⟩)] w0 fun e w' => ∃ (p' : Option Addr) (c' : Nat) (p3 : Option Addr) (c3 : Nat),e = .returned (.slice p3 (es.map itD).length c3) ∧ MemOk X w0 [(1,.box B 115 [.slice p' (rest).length c',.int .i64 0]),(2,.dat (.slice p' (rest).length c') (.ns .u8 (rest))),(3,.dat (.slice p3 (es.map itD).length c3) (.l 2 (es.map itD)))] w' := by
 refine ent1 Tryz.func78 rfl Tryz.ntmps78 fun Y U =>?_
 refine regS U (.assign rfl .nil) fun Y U =>?_
 refine regS U (.assign rfl .nil) fun Y U =>?_
 refine zsr fun K0 hK0 =>?_
 refine goCh U (.move rfl .nil) fun Y U =>?_
 refine plz (ecl U Tryz.func65 rfl (rnum_ok _ _ _ 8 _ _ _ (es.length : Int) (itemsE es ++ rest) hb hbb hbe (by decide) (by omega) (m0.into [(1,1),(2,2)] (by decide) rfl)) ?_)
 rintro e w5 ⟨p5,c5,rfl,hm5⟩
 have mx5 := m0.back hm5 [(1,1),(2,2)] (by decide); clear hm5 m0
 have m5 := mx5.oz [1,2]
 refine ⟨_,rfl,?_⟩; intro Y U
 refine gz hK0 U (.assign rfl .nil) fun Y U =>?_
 refine wsk fun K1 hK1 =>?_
 refine regS U (.assign rfl .nil) fun Y U =>?_
 refine wp_block ?_
 refine wp_loop_ghost (fun g a w => ∃ (k : Nat) (p1 : Option Addr) (c1 : Nat) (p3 : Option Addr) (c3 : Nat),k ≤ es.length ∧ g = es.length - k ∧ (itemsE (es.drop k) ++ rest).length ≤ 1000000 ∧ BytesL (itemsE (es.drop k) ++ rest) ∧ Has 33 [(0,.pointer (some ⟨B,0,none⟩)),(3,.slice p3 ((es.take k).map itD).length c3),(4,.int .u64 (es.length : Int)),(5,.int .u64 (k : Int))] a ∧ MemOk X w0 [(1,.box B 115 [.slice p1 (itemsE (es.drop k) ++ rest).length c1,.int .i64 0]),(2,.dat (.slice p1 (itemsE (es.drop k) ++ rest).length c1) (.ns .u8 (itemsE (es.drop k) ++ rest))),(9,.row (.slice p3 ((es.take k).map itD).length c3) 59 2 ((es.take k).map itD))] w) (es.length) ?_ ?_
 · have mz := m5.nilR 9 59 2
   exact ⟨0,_,_,_,_,Nat.zero_le _,rfl,by rw [hbe,List.length_append] at hb; simpa using (by omega : (itemsE es ++ rest).length ≤ 1000000),bytes_r (by rw [hbe] at hbb; exact hbb),U.only [0,3,4,5],mz.only [1,2,9]⟩
 clear U m5
 rintro g Y w9 ⟨k,p1,c1,p3,c3,hkl,hg,hb1,hbb1,U,m9⟩
 refine wsk fun K2 hK2 =>?_
 refine zsr fun K3 hK3 =>?_
 refine goCh U (.move rfl<|.move rfl<|.lss rfl rfl<|.move rfl .nil) fun Y U =>?_
 refine bc U 12 ?_ ?_
 ·
  intro hb18 U; try simp only [QQ,Qax] at hb18
  have hk : k < es.length := by omega
  obtain ⟨⟨xb,xd⟩,hes⟩ : ∃ e,es[k]? = some e := ⟨_,List.getElem?_eq_getElem hk⟩
  have hed := hok _ (List.mem_of_getElem? hes)
  dsimp only at hed
  have hE1 : itemsE (es.drop k) ++ rest = enc xb ++ (enc xd.length ++ (xd ++ (itemsE (es.drop (k + 1)) ++ rest))) := by rw [itemsE_drop hes]; simp only [itemE,List.append_assoc]
  have hb2 : (enc xd.length ++ (xd ++ (itemsE (es.drop (k + 1)) ++ rest))).length ≤ 1000000 := by rw [hE1,List.length_append] at hb1; omega
  have hbb2 : BytesL (enc xd.length ++ (xd ++ (itemsE (es.drop (k + 1)) ++ rest))) := bytes_r (by rw [hE1] at hbb1; exact hbb1)
  have hb3 : (itemsE (es.drop (k + 1)) ++ rest).length ≤ 1000000 := by rw [List.length_append,List.length_append] at hb2; omega
  have hbb3 : BytesL (itemsE (es.drop (k + 1)) ++ rest) := bytes_r (bytes_r hbb2)
  refine gz hK3 U (.moveZ rfl<|.nilCheckZ rfl<|.faZ 1 rfl U115<|.loadB1Z m9 (i := 1) rfl rfl rfl U3 rfl<|.eqlZ rfl rfl<|.pickT rfl rfl<|.nil) fun Y U =>?_
  refine bc U 18 ?_ ?_
  rotate_left
  · intro hb _; exact absurd hb (by simp)
  clear U; intro _ U
  refine wct U ?_
  refine zss (hK2 _ _ ?_)
  refine wsk fun K4 hK4 =>?_
  refine wp_block ?_
  replace U := U.oz [0,3,4,5]
  refine zsr fun K5 hK5 =>?_
  refine goCh U (.move rfl .nil) fun Y U =>?_
  refine plz (ecl U Tryz.func65 rfl (rnum_ok _ _ _ 256 _ _ _ xb (enc xd.length ++ (xd ++ (itemsE (es.drop (k + 1)) ++ rest))) hb1 hbb1 hE1 (by decide) hed.1 (m9.into [(1,1),(2,2)] (by decide) rfl)) ?_)
  rintro e w29 ⟨p29,c29,rfl,hm29⟩
  have mx29 := m9.back hm29 [(1,1),(2,2)] (by decide); clear hm29 m9
  have m29 := mx29.oz [1,2,9]
  refine ⟨_,rfl,?_⟩; intro Y U
  refine gz hK5 U (.conv rfl U108 U3 (r := xb) (IntWalk.i64_in _ (by omega))<|.assign rfl<|.nil) fun Y U =>?_
  refine wp_region_lit ?_
  refine goCh U (.move rfl<|.move rfl<|.move rfl .nil) fun Y U =>?_
  refine plz (ecl U Tryz.func120 rfl (rlump_ok _ _ _ 32 _ _ _ xd (itemsE (es.drop (k + 1)) ++ rest) hb2 hbb2 rfl (by decide) hed.2 (m29.into [(1,1),(2,2)] (by decide) rfl)) ?_)
  rintro e w36 ⟨p36,c36,p336,c336,rfl,hm36⟩
  have mx36 := m29.back hm36 [(1,1),(2,2),(100,3)] (by decide); clear hm36 m29
  have m36 := mx36.oz [1,2,100,9]
  refine ⟨_,rfl,?_⟩; intro Y U
  refine plz (e_app0N U m36 101 rfl rfl (m36.nums (i := 100) rfl) U22 fct0 (by decide) (by omega) rfl fun p38 c38 Y w39 U m39 =>?_)
  refine goCh U (.build rfl fct4 fl59xtI rfl (by dsimp only [setL,List.set] <;> rfl) .nil) fun Y U =>?_
  have m42 := m39.freezeN 101 rfl
  refine plz (e_litR U m42 102 (mm := 2) rfl (.cons rfl rfl (.cons (.v _) (.cons (m42.rd (i := 101) rfl) .nil)) .nil) U36 fct5 rfl rfl rfl rfl rfl fun g41 Y w43 U m43 =>?_)
  have m45 := m43.freezeR 102 rfl
  refine plz (e_appR U m45 9 rfl rfl rfl (m45.rd (i := 102) rfl) U36 fct5 rfl rfl (by decide) (by simp; omega) rfl fun p44 c44 Y w46 U m46 =>?_)
  refine gz hK4 U (.assign rfl .nil) fun Y U =>?_
  replace U := U.oz [0,3,4,5]
  refine wp_region_lit ?_
  refine goCh U (.move rfl<|.add rfl rfl (r := ((k + 1 : Nat) : Int)) (by rw [IntWalk.u64_in _ (by omega)]; omega)<|.assign rfl .nil) fun Y U =>?_
  refine wpList_nil ?_
  show ∃ n',n' < _ ∧ _
  have hE : (es.take k).map itD ++ [[D.v (.int .i64 xb),.ns .u8 xd]] = (es.take (k + 1)).map itD := by rw [take_snoc hes,List.map_append]; rfl
  rw [hE] at m46 U
  exact ⟨es.length - (k + 1),by omega,k + 1,_,_,_,_,by omega,rfl,hb3,hbb3,U.only [0,3,4,5],m46.only [1,2,9]⟩
 intro hb18 U; try simp only [QQ,Qax] at hb18
 revert U
 obtain rfl : k = es.length := by omega
 intro U
 refine gz hK3 U (.sk<|.sk<|.sk<|.sk<|.sk<|.pickF rfl rfl<|.nil) fun Y U =>?_
 refine wcf U ?_
 refine wp_exit ?_
 refine hK1 _ _ ?_
 replace U := U.oz [0,3,4,5]
 refine regS U (.move rfl<|.assign rfl .nil) fun Y U =>?_
 refine rt1 U ?_
 have m61 := m9.freezeR 9 rfl
 rw [List.drop_length,List.take_length,show itemsE [] ++ rest = rest from rfl] at m61
 rw [List.take_length]
 exact ⟨_,_,_,_,rfl,m61.ren [(1,1),(2,2),(3,9)] (by decide)⟩
end
end Go.Proofs.YtkehgingagggaaaGreat.K
