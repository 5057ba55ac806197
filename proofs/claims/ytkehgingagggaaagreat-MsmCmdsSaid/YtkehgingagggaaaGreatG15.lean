/- General laws of walks. -/
import Derived.Test.YtkehgingagggaaaGreatG14
import Derived.Test.YtkehgingagggaaaGreatG12
import Derived.Test.YtkehgingagggaaaGreatG13
import Derived.Test.YtkehgingagggaaaGreatG6
import Derived.Laws.StructEq
import Derived.ChangeKeysEq
namespace Go.Proofs.YtkehgingagggaaaGreat.K
open Go.ChangeShapes Go.WideShapes Go.ChangeAt Go.RowKit
set_option linter.unusedVariables false
set_option linter.unusedSimpArgs false
section
theorem fl115xrC : flatS Tryz.prog 115 [.slice none 0 0,.int .i64 0] = true := by kernel_rfl
structure CmdOk (kd vo bl sz pe to at0 ix : Int) (place : List Int) (items : List (Int × List Int)) : Prop where
 kd : 1 ≤ kd ∧ kd ≤ 8
 vo : 0 ≤ vo ∧ vo ≤ 7
 t40 : (0 ≤ bl ∧ bl ≤ 1099511627776) ∧ (0 ≤ sz ∧ sz ≤ 1099511627776) ∧ (0 ≤ pe ∧ pe ≤ 1099511627776) ∧ (0 ≤ to ∧ to ≤ 1099511627776) ∧ (0 ≤ at0 ∧ at0 ≤ 1099511627776) ∧ (0 ≤ ix ∧ ix ≤ 1099511627776)
 pl : place.length ≤ 256
 pb : ∀ k,k < place.length → 0 ≤ place.getD k 0 ∧ place.getD k 0 ≤ 7
 il : items.length ≤ 8
 ib : ∀ e ∈ items,(0 ≤ e.1 ∧ e.1 ≤ 255) ∧ e.2.length ≤ 32
 by8 : ∀ e ∈ items,BytesL e.2
def cmdE (kd vo bl sz pe to at0 ix : Int) (place : List Int) (items : List (Int × List Int)) : List Int := encs [kd,vo,bl,sz,pe,to,at0,ix] ++ (encs ((place.length : Int) :: place) ++ (enc items.length ++ itemsE items))
theorem l63 {l : List Int} (h : ∀ x ∈ l,0 ≤ x ∧ x ≤ 9223372036854775807) : ∀ k,k < l.length → 0 ≤ l.getD k 0 ∧ l.getD k 0 ≤ 9223372036854775807 := fun k hk => by
 rw [List.getD,List.getElem?_eq_getElem hk]; exact h _ (List.getElem_mem hk)
theorem bytes_app2 {a b : List Int} (ha : BytesL a) (hb : BytesL b) : BytesL (a ++ b) := fun x hx => (List.mem_append.1 hx).elim (ha x) (hb x)
theorem encs_bytes {l : List Int} (h : ∀ x ∈ l,x ≤ 18446744073709551615) : BytesL (encs l) := fun x hx => by
 obtain ⟨y,hy,hxy⟩ := List.mem_flatMap.1 hx
 exact enc_bytes y (h y hy) x hxy
theorem items_bytes {es : List (Int × List Int)} (h : ∀ e ∈ es,e.1 ≤ 18446744073709551615 ∧ e.2.length ≤ 1000 ∧ BytesL e.2) : BytesL (itemsE es) := fun x hx => by
 obtain ⟨y,hy,hxy⟩ := List.mem_flatMap.1 hx
 obtain ⟨h1,h2,h3⟩ := h y hy
 rcases List.mem_append.1 hxy with h4 | h4
 · exact enc_bytes _ h1 x h4
 rcases List.mem_append.1 h4 with h5 | h5
 · exact enc_bytes _ (by omega) x h5
 exact h3 x h5
section
variable {kd vo bl sz pe to at0 ix : Int} {place : List Int} {items : List (Int × List Int)}
theorem CmdOk.n63 (hc : CmdOk kd vo bl sz pe to at0 ix place items) : ∀ k,k < [kd,vo,bl,sz,pe,to,at0,ix].length → 0 ≤ [kd,vo,bl,sz,pe,to,at0,ix].getD k 0 ∧ [kd,vo,bl,sz,pe,to,at0,ix].getD k 0 ≤ 9223372036854775807 := l63 (fun x hx => by
 have h1 := hc.kd; have h2 := hc.vo; have h3 := hc.t40
 simp only [List.mem_cons,List.not_mem_nil,or_false] at hx
 omega)
theorem CmdOk.lens (hc : CmdOk kd vo bl sz pe to at0 ix place items) : (encs [kd,vo,bl,sz,pe,to,at0,ix]).length ≤ 80 ∧ (encs ((place.length : Int) :: place)).length ≤ 2570 ∧ (enc items.length ++ itemsE items).length ≤ 8170 := by
 have h1 := encs_len [kd,vo,bl,sz,pe,to,at0,ix]
 have h2 := encs_len ((place.length : Int) :: place)
 have h3 := (enc_len items.length).1
 have h4 := itemsE_len items (fun e he => by have := hc.ib e he; omega)
 have h5 := hc.pl; have h6 := hc.il
 simp only [List.length_cons,List.length_nil,List.length_append] at *
 omega
theorem CmdOk.len (hc : CmdOk kd vo bl sz pe to at0 ix place items) : (cmdE kd vo bl sz pe to at0 ix place items).length ≤ 20000 := by
 have := hc.lens
 simp only [cmdE,List.length_append] at *
 omega
theorem CmdOk.bytes (hc : CmdOk kd vo bl sz pe to at0 ix place items) : BytesL (cmdE kd vo bl sz pe to at0 ix place items) := by
 have h1 := hc.kd; have h2 := hc.vo; have h3 := hc.t40; have h4 := hc.pl; have h5 := hc.il
 refine bytes_app2 (encs_bytes fun x hx =>?_) (bytes_app2 (encs_bytes fun x hx =>?_) (bytes_app2 (fun x hx => enc_bytes _ (by omega) x hx) (items_bytes fun e he =>?_)))
 · simp only [List.mem_cons,List.not_mem_nil,or_false] at hx; omega
 · rcases List.mem_cons.1 hx with rfl | hx
   · omega
   obtain ⟨k,hk,rfl⟩ := List.getElem_of_mem hx
   have := hc.pb k hk
   rw [List.getD,List.getElem?_eq_getElem hk] at this
   simp only [Option.getD_some] at this
   omega
 have := hc.ib e he; exact ⟨by omega,by omega,hc.by8 e he⟩
end
set_option maxRecDepth 100000
set_option maxHeartbeats 4000000
theorem within_x (n : Int) (w0 : World) (h : 0 ≤ n ∧ n ≤ 1099511627776) : Calls Tryz.prog 72 #[.int .i64 n] w0 fun e w' => e = .returned (.bool true) ∧ Below w0.heap.size w0 w' := by
 refine ent1 Tryz.func72 rfl Tryz.ntmps72 fun Y U =>?_
 have m0 := MemOk.start (fun _ => False) w0
 refine regS U (.assign rfl .nil) fun Y U =>?_
 refine zsr fun K0 hK0 =>?_
 refine goCh U (.move rfl<|.geq rfl rfl<|.move rfl .nil) fun Y U =>?_
 refine bc U 5 ?_ ?_
 rotate_left
 · intro hb _; exact absurd hb (by simp; omega)
 clear U; intro _ U
 refine gz hK0 U (.moveZ rfl<|.leqZ rfl rfl<|.pickT rfl rfl<|.assign rfl<|.nil) fun Y U =>?_
 refine rt1 U ?_
 exact ⟨by simp; omega,m0.below⟩
theorem rcmd_yes (kd vo bl sz pe to at0 ix : Int) (place : List Int) (items : List (Int × List Int)) (pp pi : Option Addr) (cp ni ci : Nat) (w0 : World) (h0 : Rd (fun _ => True) w0 (.slice pp place.length cp) (.ns .i64 place)) (h1 : Rd (fun _ => True) w0 (.slice pi ni ci) (.l 2 (items.map itD))) (hc : CmdOk kd vo bl sz pe to at0 ix place items) :
   Calls Tryz.prog 27 #[.agg #[.int .i64 kd,.int .i64 vo,.int .i64 bl,.int .i64 sz,.int .i64 pe,.slice pp place.length cp,.int .i64 to,.int .i64 at0,.int .i64 ix,.slice pi ni ci]] w0 fun e w' => e = .returned (.bool true) ∧ Below w0.heap.size w0 w' := by
 obtain rfl : ni = items.length := by obtain ⟨pq,c9,hv,_⟩ := h1.l_shape; injection hv with _ e2 _; rw [List.length_map] at e2; exact e2
 obtain ⟨hkd,hvo,ht40,hpl,hpb,hil,hok,-⟩ := hc
 refine ent1 Tryz.func27 rfl Tryz.ntmps27 fun Y U =>?_
 have m0 := MemOk.start (fun _ => False) w0
 refine zsr fun K0 hK0 =>?_
 refine plz (e_box U m0 20 (cs := [_,_,_,_,_,_,_,_,_,_]) rfl rfl rfl fun g1 Y w2 U m2 _ _ =>?_)
 refine gz hK0 U (.assign rfl .nil) fun Y U =>?_
 refine wsk fun K1 hK1 =>?_
 refine zsr fun K2 hK2 =>?_
 refine goCh U (.fa 0 rfl U38<|.lb m2 20 U3 rfl rfl rfl<|.lss rfl rfl<|.move rfl .nil) fun Y U =>?_
 refine bc U 8 ?_ ?_
 · intro hb _; exact absurd hb (by simp; omega)
 clear U; intro _ U
 refine goCh U (.faZ 0 rfl U38<|.loadB1Z m2 (i := 20) rfl rfl rfl U3 rfl<|.gtrZ rfl rfl<|.pickF rfl rfl<|.move rfl .nil) fun Y U =>?_
 refine bc U 13 ?_ ?_
 · intro hb _; exact absurd hb (by simp; omega)
 clear U; intro _ U
 refine goCh U (.faZ 1 rfl U38<|.loadB1Z m2 (i := 20) rfl rfl rfl U3 rfl<|.lssZ rfl rfl<|.pickF rfl rfl<|.move rfl .nil) fun Y U =>?_
 refine bc U 18 ?_ ?_
 · intro hb _; exact absurd hb (by simp; omega)
 clear U; intro _ U
 refine goCh U (.faZ 1 rfl U38<|.loadB1Z m2 (i := 20) rfl rfl rfl U3 rfl<|.geqZ rfl rfl<|.pickF rfl rfl<|.move rfl .nil) fun Y U =>?_
 refine bc U 23 ?_ ?_
 · intro hb _; exact absurd hb (by simp; omega)
 clear U; intro _ U
 refine goCh U (.faZ 2 rfl U38<|.loadB1Z m2 (i := 20) rfl rfl rfl U3 rfl .nil) fun Y U =>?_
 refine stz U (ecb U Tryz.func72 rfl m2 (within_x _ _ (by omega)) fun Y w33 U m34 =>?_)
 refine goCh U (.notZ rfl<|.pickF rfl rfl<|.move rfl<|.faZ 3 rfl U38<|.loadB1Z m34 (i := 20) rfl rfl rfl U3 rfl .nil) fun Y U =>?_
 refine stz U (ecb U Tryz.func72 rfl m34 (within_x _ _ (by omega)) fun Y w41 U m42 =>?_)
 refine goCh U (.notZ rfl<|.pickF rfl rfl<|.move rfl<|.faZ 4 rfl U38<|.loadB1Z m42 (i := 20) rfl rfl rfl U3 rfl .nil) fun Y U =>?_
 refine stz U (ecb U Tryz.func72 rfl m42 (within_x _ _ (by omega)) fun Y w49 U m50 =>?_)
 refine goCh U (.notZ rfl<|.pickF rfl rfl<|.move rfl<|.faZ 6 rfl U38<|.loadB1Z m50 (i := 20) rfl rfl rfl U3 rfl .nil) fun Y U =>?_
 refine stz U (ecb U Tryz.func72 rfl m50 (within_x _ _ (by omega)) fun Y w57 U m58 =>?_)
 refine goCh U (.notZ rfl<|.pickF rfl rfl<|.move rfl<|.faZ 8 rfl U38<|.loadB1Z m58 (i := 20) rfl rfl rfl U3 rfl .nil) fun Y U =>?_
 refine stz U (ecb U Tryz.func72 rfl m58 (within_x _ _ (by omega)) fun Y w65 U m66 =>?_)
 refine goCh U (.notZ rfl<|.pickF rfl rfl<|.move rfl<|.faZ 7 rfl U38<|.loadB1Z m66 (i := 20) rfl rfl rfl U2 rfl .nil) fun Y U =>?_
 refine stz U (ecb U Tryz.func72 rfl m66 (within_x _ _ (by omega)) fun Y w73 U m74 =>?_)
 refine goCh U (.notZ rfl<|.pickF rfl rfl<|.move rfl<|.faZ 5 rfl U38<|.loadB1Z m74 (i := 20) rfl rfl rfl U35 rfl<|.lenZ rfl U35<|.gtrZ rfl rfl<|.pickF rfl rfl<|.move rfl .nil) fun Y U =>?_
 refine bc U 65 ?_ ?_
 · intro hb _; exact absurd hb (by simp; omega)
 clear U; intro _ U
 refine gz hK2 U (.faZ 9 rfl U38<|.loadB1Z m74 (i := 20) rfl rfl rfl U36 rfl<|.lenZ rfl U36<|.gtrZ rfl rfl<|.pickF rfl rfl<|.nil) fun Y U =>?_
 refine bc U 70 ?_ ?_
 · intro hb _; exact absurd hb (by simp; omega)
 clear U; intro _ U
 refine wcf U ?_
 refine zss (hK1 _ _ ?_)
 refine wsk fun K3 hK3 =>?_
 replace U := U.oz [1,2]
 refine regS U (.assign rfl .nil) fun Y U =>?_
 refine wp_block ?_
 refine wp_loop_ghost (fun g a w => ∃ (k B : Nat),k ≤ place.length ∧ g = place.length - k ∧ Has 125 [(1,.pointer (some ⟨B,0,none⟩)),(3,.int .i64 k)] a ∧ MemOk (cn w0) w0 [(9,.box B 38 [.int .i64 kd,.int .i64 vo,.int .i64 bl,.int .i64 sz,.int .i64 pe,.slice pp place.length cp,.int .i64 to,.int .i64 at0,.int .i64 ix,.slice pi items.length ci])] w) (place.length) ?_ ?_
 · exact ⟨0,_,Nat.zero_le _,rfl,U.only [1,3],m74.ren [(9,20)] (by decide)⟩
 clear U m74
 rintro g Y w94 ⟨k,B,hkl,hg,U,m94⟩
 refine wsk fun K4 hK4 =>?_
 refine regS U (.move rfl<|.fa 5 rfl U38<|.lb m94 9 U35 rfl rfl rfl<|.len rfl U35<|.lss rfl rfl .nil) fun Y U =>?_
 refine bc U 75 ?_ ?_
 ·
  intro hb100 U; try simp only [QQ,Qax] at hb100
  have hk : k < place.length := by omega
  have hpk := hpb k hk
  refine wct U ?_
  refine zss (hK4 _ _ ?_)
  refine wsk fun K5 hK5 =>?_
  refine wp_block ?_
  refine zsr fun K6 hK6 =>?_
  refine goCh U (.fa 5 rfl U38<|.lb m94 9 U35 rfl rfl rfl<|.move rfl .nil) fun Y U =>?_
  obtain ⟨gx108,ox108,hp108,hl108,hrg108⟩ := h0.extN (k) hk
  revert U
  cases hp108
  intro U
  refine goCh U (.c rfl (fun _ h_ => y_idx h_ rfl rfl U35 fct17 (k) rfl hk)<|.loadAt1 (hrg108 m94 rfl) (q := 0) rfl rfl rfl U3 rfl<|.lss rfl rfl<|.move rfl .nil) fun Y U =>?_
  refine bc U 84 ?_ ?_
  · intro hb _; exact absurd hb (by rw [decide_eq_true_eq]; omega)
  clear U; intro _ U
  refine goCh U (.faZ 5 rfl U38<|.loadB1Z m94 (i := 9) rfl rfl rfl U35 rfl<|.moveZ rfl .nil) fun Y U =>?_
  obtain ⟨gx117,ox117,hp117,hl117,hrg117⟩ := h0.extN (k) hk
  revert U
  cases hp117
  intro U
  refine gz hK6 U (.g rfl rfl rfl rfl (fun _ h_ => y_idx h_ rfl rfl U35 fct17 (k) rfl hk)<|.loadAt1Z (hrg117 m94 rfl) (q := 0) rfl rfl rfl U3 rfl<|.geqZ rfl rfl<|.pickF rfl rfl<|.nil) fun Y U =>?_
  refine bc U 91 ?_ ?_
  · intro hb _; exact absurd hb (by rw [decide_eq_true_eq]; omega)
  clear U; intro _ U
  refine wcf U ?_
  refine zss (hK5 _ _ ?_)
  replace U := U.oz [1,3]
  refine wp_region_lit ?_
  refine goCh U (.move rfl<|.inc (k + 1)<|.assign rfl .nil) fun Y U =>?_
  refine wpList_nil ?_
  show ∃ n',n' < _ ∧ _
  exact ⟨place.length - (k + 1),by omega,k + 1,_,by omega,rfl,U.only [1,3],m94.only [9]⟩
 intro hb100 U; try simp only [QQ,Qax] at hb100
 refine wcf U ?_
 refine wp_exit ?_
 refine hK3 _ _ ?_
 refine wsk fun K7 hK7 =>?_
 refine regS U (.assign rfl .nil) fun Y U =>?_
 refine wp_block ?_
 refine wp_loop_ghost (fun g a w => ∃ (k B : Nat),k ≤ items.length ∧ g = items.length - k ∧ Has 125 [(1,.pointer (some ⟨B,0,none⟩)),(4,.int .i64 k)] a ∧ MemOk (cn w0) w0 [(9,.box B 38 [.int .i64 kd,.int .i64 vo,.int .i64 bl,.int .i64 sz,.int .i64 pe,.slice pp place.length cp,.int .i64 to,.int .i64 at0,.int .i64 ix,.slice pi items.length ci])] w) (items.length) ?_ ?_
 · exact ⟨0,_,Nat.zero_le _,rfl,U.only [1,4],m94.ren [(9,9)] (by decide)⟩
 clear U m94
 rintro g Y w128 ⟨k,B,hkl,hg,U,m128⟩
 refine wsk fun K8 hK8 =>?_
 refine regS U (.move rfl<|.fa 9 rfl U38<|.lb m128 9 U36 rfl rfl rfl<|.len rfl U36<|.lss rfl rfl .nil) fun Y U =>?_
 refine bc U 96 ?_ ?_
 ·
  intro hb134 U; try simp only [QQ,Qax] at hb134
  have hk : k < items.length := by omega
  obtain ⟨⟨xb,xd⟩,hes⟩ : ∃ e,items[k]? = some e := ⟨_,List.getElem?_eq_getElem hk⟩
  have hed := hok _ (List.mem_of_getElem? hes)
  dsimp only at hed
  refine wct U ?_
  refine zss (hK8 _ _ ?_)
  refine wsk fun K9 hK9 =>?_
  refine wp_block ?_
  refine zsr fun K10 hK10 =>?_
  refine goCh U (.fa 9 rfl U38<|.lb m128 9 U36 rfl rfl rfl<|.move rfl .nil) fun Y U =>?_
  obtain ⟨gx142,ox142,vx142,hp142,hl142,hR142,hrg142⟩ := h1.extA (k) (r := [.v (.int .i64 xb),.ns .u8 xd]) (itD_get hes)
  revert U
  cases hp142
  rcases hR142 with _ | ⟨hd142_0,_ | ⟨hd142_1,_ | _⟩⟩
  obtain rfl := hd142_0.v_out
  clear hd142_0
  obtain ⟨p143,c143,hv143,hw143⟩ := hd142_1.ns_shape; subst hv143
  intro U
  refine goCh U (.c rfl (fun _ h_ => y_idx h_ rfl rfl U36 fct3 (k) rfl hk)<|.fieldAddrQ 0 rfl U59 rfl (s := 0) (by kernel_rfl) rfl<|.loadAt1 (hrg142 m128 rfl) (q := 0) rfl rfl rfl U3 rfl<|.lss rfl rfl<|.move rfl .nil) fun Y U =>?_
  refine bc U 106 ?_ ?_
  · intro hb _; exact absurd hb (by simp; omega)
  clear U; intro _ U
  refine goCh U (.faZ 9 rfl U38<|.loadB1Z m128 (i := 9) rfl rfl rfl U36 rfl<|.moveZ rfl .nil) fun Y U =>?_
  obtain ⟨gx153,ox153,vx153,hp153,hl153,hR153,hrg153⟩ := h1.extA (k) (r := [.v (.int .i64 xb),.ns .u8 xd]) (itD_get hes)
  revert U
  cases hp153
  rcases hR153 with _ | ⟨hd153_0,_ | ⟨hd153_1,_ | _⟩⟩
  obtain rfl := hd153_0.v_out
  clear hd153_0
  obtain ⟨p154,c154,hv154,hw154⟩ := hd153_1.ns_shape; subst hv154
  intro U
  refine goCh U (.g rfl rfl rfl rfl (fun _ h_ => y_idx h_ rfl rfl U36 fct3 (k) rfl hk)<|.fieldAddrQZ 0 rfl U59 rfl (s := 0) (by kernel_rfl) rfl<|.loadAt1Z (hrg153 m128 rfl) (q := 0) rfl rfl rfl U3 rfl<|.geqZ rfl rfl<|.pickF rfl rfl<|.move rfl .nil) fun Y U =>?_
  refine bc U 115 ?_ ?_
  · intro hb _; exact absurd hb (by simp; omega)
  clear U; intro _ U
  refine goCh U (.faZ 9 rfl U38<|.loadB1Z m128 (i := 9) rfl rfl rfl U36 rfl<|.moveZ rfl .nil) fun Y U =>?_
  obtain ⟨gx165,ox165,vx165,hp165,hl165,hR165,hrg165⟩ := h1.extA (k) (r := [.v (.int .i64 xb),.ns .u8 xd]) (itD_get hes)
  revert U
  cases hp165
  rcases hR165 with _ | ⟨hd165_0,_ | ⟨hd165_1,_ | _⟩⟩
  obtain rfl := hd165_0.v_out
  clear hd165_0
  obtain ⟨p166,c166,hv166,hw166⟩ := hd165_1.ns_shape; subst hv166
  intro U
  refine gz hK10 U (.g rfl rfl rfl rfl (fun _ h_ => y_idx h_ rfl rfl U36 fct3 (k) rfl hk)<|.fieldAddrQZ 1 rfl U59 rfl (s := 0) (by kernel_rfl) rfl<|.loadAt1Z (hrg165 m128 rfl) (q := 1) rfl rfl rfl U22 rfl<|.lenZ rfl U22<|.gtrZ rfl rfl<|.pickF rfl rfl<|.nil) fun Y U =>?_
  refine bc U 124 ?_ ?_
  · intro hb _; exact absurd hb (by simp; omega)
  clear U; intro _ U
  refine wcf U ?_
  refine zss (hK9 _ _ ?_)
  replace U := U.oz [1,4]
  refine wp_region_lit ?_
  refine goCh U (.move rfl<|.inc (k + 1)<|.assign rfl .nil) fun Y U =>?_
  refine wpList_nil ?_
  show ∃ n',n' < _ ∧ _
  exact ⟨items.length - (k + 1),by omega,k + 1,_,by omega,rfl,U.only [1,4],m128.only [9]⟩
 intro hb134 U; try simp only [QQ,Qax] at hb134
 refine wcf U ?_
 refine wp_exit ?_
 refine hK7 _ _ ?_
 refine regS U (.assign rfl .nil) fun Y U =>?_
 refine rt1 U ?_
 exact ⟨rfl,m128.below⟩
theorem rputCmd_x (kd vo bl sz pe to at0 ix : Int) (place : List Int) (items : List (Int × List Int)) (pp pi : Option Addr) (cp ni ci : Nat) (w0 : World) (h0 : Rd (fun _ => True) w0 (.slice pp place.length cp) (.ns .i64 place)) (h1 : Rd (fun _ => True) w0 (.slice pi ni ci) (.l 2 (items.map itD))) (hc : CmdOk kd vo bl sz pe to at0 ix place items) :
   Calls Tryz.prog 12 #[.agg #[.int .i64 kd,.int .i64 vo,.int .i64 bl,.int .i64 sz,.int .i64 pe,.slice pp place.length cp,.int .i64 to,.int .i64 at0,.int .i64 ix,.slice pi ni ci]] w0 fun e w' => ∃ (p : Option Addr) (c : Nat),e = .returned (.tuple #[.slice p (cmdE kd vo bl sz pe to at0 ix place items).length c,.int .i64 0]) ∧ Rd (New w0) w' (.slice p (cmdE kd vo bl sz pe to at0 ix place items).length c) (.ns .u8 (cmdE kd vo bl sz pe to at0 ix place items)) ∧ Below w0.heap.size w0 w' := by
 obtain rfl : ni = items.length := by obtain ⟨pq,c9,hv,_⟩ := h1.l_shape; injection hv with _ e2 _; rw [List.length_map] at e2; exact e2
 rw [show cmdE kd vo bl sz pe to at0 ix place items = (encs [kd,vo,bl,sz,pe,to,at0,ix] ++ encs ((place.length : Int) :: place)) ++ (enc items.length ++ itemsE items) from (List.append_assoc _ _ _).symm]
 refine ent1 Tryz.func12 rfl Tryz.ntmps12 fun Y U =>?_
 have m0 := MemOk.start (fun _ => False) w0
 refine zsr fun K0 hK0 =>?_
 refine plz (e_box U m0 20 (cs := [_,_,_,_,_,_,_,_,_,_]) rfl rfl rfl fun g1 Y w2 U m2 _ _ =>?_)
 refine gz hK0 U (.assign rfl<|.assign rfl<|.nil) fun Y U =>?_
 refine wsk fun K1 hK1 =>?_
 refine zsr fun K2 hK2 =>?_
 refine goCh U (.loadBR m2 (i := 20) rfl rfl U38 rfl fct18 (by simp) (by dsimp only [List.drop,List.take] <;> rfl) .nil) fun Y U =>?_
 refine plz (ecb U Tryz.func27 rfl m2 (rcmd_yes _ _ _ _ _ _ _ _ place items _ _ _ _ _ _ ((h0.now' m2 rfl).any) ((h1.now' m2 rfl).any) hc) fun Y w7 U m8 =>?_)
 refine gz hK2 U (.not rfl .nil) fun Y U =>?_
 refine wcf U ?_
 refine zss (hK1 _ _ ?_)
 refine zsr fun K3 hK3 =>?_
 refine goCh U (.fa 0 rfl U38<|.lb m8 20 U3 rfl rfl rfl<|.fa 1 rfl U38<|.lb m8 20 U3 rfl rfl rfl<|.fa 2 rfl U38<|.lb m8 20 U3 rfl rfl rfl<|.fa 3 rfl U38<|.lb m8 20 U3 rfl rfl rfl<|.fa 4 rfl U38<|.lb m8 20 U3 rfl rfl rfl<|.fa 6 rfl U38<|.lb m8 20 U3 rfl rfl rfl<|.fa 7 rfl U38<|.lb m8 20 U2 rfl rfl rfl<|.fa 8 rfl U38<|.lb m8 20 U3 rfl rfl rfl .nil) fun Y U =>?_
 refine plz (e_litN U m8 21 (k := .i64) rfl rfl U48 fct1 rfl rfl rfl rfl fun g43 Y w44 U m44 =>?_)
 have m45 := m44.freezeN 21 rfl
 refine plz (ecn U Tryz.func44 rfl m45 22 (rnums16x [kd,vo,bl,sz,pe,to,at0,ix] _ _ _ ((m45.rd (i := 21) rfl).any) (by simp) hc.n63) fun p46 c46 Y w46 U m47 =>?_)
 refine gz hK3 U (.assign rfl .nil) fun Y U =>?_
 refine wsk fun K4 hK4 =>?_
 replace U := U.oz [1,2,3,4]
 have m51 := m47.oz [20,21,22]
 refine region_p 11 (B := [(20,_)]) (m51.to ⟨il,trivial⟩) m51 (by kernel_rfl) (fun w52 hP52 m52 =>?_); clear m51
 refine goR hP52 [0,1,2,5,6] [2,6] 5 0 103 U (m52.to ⟨il,trivial⟩) (.move rfl<|.fa 5 rfl U38<|.lb hh 20 U35 rfl rfl rfl<|.fa 9 rfl U38<|.lb hh 20 U36 rfl rfl rfl .nil) fun Y U =>?_
 refine so 3 ?_
 refine ecn U Tryz.func45 rfl m52 23 (rplace_x place _ _ _ ((h0.now' m52 rfl).any) (by have := hc.pl; omega) (fun k hk => by have := hc.pb k hk; omega)) fun p58 c58 Y w58 U m59 =>?_
 refine ⟨m59.to ⟨il,trivial⟩,?_⟩
 refine so 4 ?_
 refine e_appN U m59 22 rfl rfl rfl (m59.numsO (i := 23) rfl) U22 fct0 (by decide) (by have := hc.lens; omega) rfl fun p61 c61 Y w62 U m62 =>?_
 refine ⟨m62.to ⟨il,trivial⟩,?_⟩
 refine so 7 ?_
 refine ecn U Tryz.func46 rfl m62 24 (rputItems_x items _ _ _ _ ((h1.now' m62 rfl).any) (by have := hc.il; omega) (fun e he => by have := hc.ib e he; omega)) fun p63 c63 Y w63 U m64 =>?_
 refine ⟨m64.to ⟨il,trivial⟩,?_⟩
 refine so 8 ?_
 refine e_appN U m64 22 rfl rfl rfl (m64.numsO (i := 24) rfl) U22 fct0 (by decide) (by have := hc.lens; simp only [List.length_append] at *; omega) rfl fun p66 c66 Y w67 U m67 =>?_
 refine ⟨m67.to ⟨il,trivial⟩,?_⟩
 refine goA hP52 [9,10] 2 511 2047 U (m67.to ⟨il,trivial⟩) (.assign rfl<|.assign rfl .nil) fun Y U =>?_
 refine wpAnyE_done (by kernel_rfl) ?_ _
 refine hK4 _ _ ?_
 refine rt2 U ?_
 have m70 := m67.freezeN 22 rfl
 exact ⟨_,_,rfl,m70.outF (i := 22) rfl,m70.below⟩
theorem rreadCmd_x (X : Cx) (kd vo bl sz pe to at0 ix : Int) (place : List Int) (items : List (Int × List Int)) (p : Option Addr) (c : Nat) (w0 : World) (hc : CmdOk kd vo bl sz pe to at0 ix place items) (m0 : MemOk X w0 [(1,.dat (.slice p (cmdE kd vo bl sz pe to at0 ix place items).length c) (.ns .u8 (cmdE kd vo bl sz pe to at0 ix place items)))] w0) :
   Calls Tryz.prog 29 #[.slice p (cmdE kd vo bl sz pe to at0 ix place items).length c] w0 fun e w' => ∃ (pp : Option Addr) (cp : Nat) (pi : Option Addr) (ci : Nat),e = .returned (.tuple #[.agg #[.int .i64 kd,.int .i64 vo,.int .i64 bl,.int .i64 sz,.int .i64 pe,.slice pp place.length cp,.int .i64 to,.int .i64 at0,.int .i64 ix,.slice pi items.length ci],.int .i64 0]) ∧ MemOk X w0 [(1,.dat (.slice pp place.length cp) (.ns .i64 place)),(2,.dat (.slice pi (items.map itD).length ci) (.l 2 (items.map itD)))] w' := by
 refine ent1 Tryz.func29 rfl Tryz.ntmps29 fun Y U =>?_
 obtain ⟨T9,hT9⟩ : ∃ x,encs ((place.length : Int) :: place) ++ (enc items.length ++ itemsE items) = x := ⟨_,rfl⟩
 have hE : cmdE kd vo bl sz pe to at0 ix place items = (encs [kd,vo,bl,sz,pe,to,at0,ix] ++ T9) := by rw [← hT9]; rfl
 have hl0 : ((encs [kd,vo,bl,sz,pe,to,at0,ix] ++ T9)).length ≤ 1000000 := by rw [← hE]; have := hc.len; omega
 have hb0 : BytesL ((encs [kd,vo,bl,sz,pe,to,at0,ix] ++ T9)) := by rw [← hE]; exact hc.bytes
 rw [hE] at m0 U
 refine zsr fun K0 hK0 =>?_
 refine plz (e_alloc U m0 20 fct23 rfl fun g1 Y w2 U m2 _ _ =>?_)
 refine gz hK0 U (.assign rfl .nil) fun Y U =>?_
 refine zsr fun K1 hK1 =>?_
 refine goCh U (.move rfl<|.build rfl fct24 fl115xrC rfl (by dsimp only [setL,List.set] <;> rfl) .nil) fun Y U =>?_
 refine plz (e_box U m2 21 (cs := [_,_]) rfl rfl rfl fun g8 Y w9 U m9 _ _ =>?_)
 refine gz hK1 U (.assign rfl .nil) fun Y U =>?_
 refine zsr fun K2 hK2 =>?_
 refine plz (e_alloc U m9 22 fct23 rfl fun g11 Y w12 U m12 _ _ =>?_)
 refine znl (hK2 _ _ ?_)
 refine zsr fun K3 hK3 =>?_
 refine goCh U (.move rfl .nil) fun Y U =>?_
 have m15 := m12.dat 23 rfl (m12.rd (i := 1) rfl)
 refine plz (ecl U Tryz.func65 rfl (rnum_ok _ _ _ 8 _ _ _ kd (encs [vo,bl,sz,pe,to,at0,ix] ++ T9) hl0 hb0 (by rw [encs_cons,List.append_assoc]) (by decide) (by have := hc.kd; have := hc.vo; have := hc.t40; omega) (m15.into [(1,21),(2,23)] (by decide) rfl)) ?_)
 rintro e w16 ⟨p16,c16,rfl,hm16⟩
 have mx16 := m15.back hm16 [(21,1),(24,2)] (by decide); clear hm16 m15
 have m16 := mx16.oz [21,24,1,20,22]
 refine ⟨_,rfl,?_⟩; intro Y U
 have hl1 : ((encs [vo,bl,sz,pe,to,at0,ix] ++ T9)).length ≤ 1000000 := by have h9 := hl0; rw [encs_cons,List.append_assoc,List.length_append] at h9; omega
 have hb1 : BytesL ((encs [vo,bl,sz,pe,to,at0,ix] ++ T9)) := bytes_r (by have h9 := hb0; rw [encs_cons,List.append_assoc] at h9; exact h9)
 refine goCh U (.conv rfl U108 U3 (by have := hc.kd; have := hc.vo; have := hc.t40; exact IntWalk.i64_in _ (by omega))<|.fa 0 rfl U38 .nil) fun Y U =>?_
 refine plz (st1 U m16 22 fct17 fun w20 m20 _ =>?_)
 refine znl (hK3 _ _ ?_)
 replace U := U.oz [0,2,3,4,5]
 refine zsr fun K4 hK4 =>?_
 refine goCh U (.move rfl .nil) fun Y U =>?_
 refine plz (ecl U Tryz.func65 rfl (rnum_ok _ _ _ 8 _ _ _ vo (encs [bl,sz,pe,to,at0,ix] ++ T9) hl1 hb1 (by rw [encs_cons,List.append_assoc]) (by decide) (by have := hc.kd; have := hc.vo; have := hc.t40; omega) (m20.into [(1,21),(2,24)] (by decide) rfl)) ?_)
 rintro e w24 ⟨p24,c24,rfl,hm24⟩
 have mx24 := m20.back hm24 [(21,1),(25,2)] (by decide); clear hm24 m20
 have m24 := mx24.oz [21,25,1,20,22]
 refine ⟨_,rfl,?_⟩; intro Y U
 have hl2 : ((encs [bl,sz,pe,to,at0,ix] ++ T9)).length ≤ 1000000 := by have h9 := hl1; rw [encs_cons,List.append_assoc,List.length_append] at h9; omega
 have hb2 : BytesL ((encs [bl,sz,pe,to,at0,ix] ++ T9)) := bytes_r (by have h9 := hb1; rw [encs_cons,List.append_assoc] at h9; exact h9)
 refine goCh U (.conv rfl U108 U3 (by have := hc.kd; have := hc.vo; have := hc.t40; exact IntWalk.i64_in _ (by omega))<|.fa 1 rfl U38 .nil) fun Y U =>?_
 refine plz (st1 U m24 22 fct17 fun w28 m28 _ =>?_)
 refine znl (hK4 _ _ ?_)
 refine zsr fun K5 hK5 =>?_
 refine goCh U (.move rfl .nil) fun Y U =>?_
 refine plz (ecl U Tryz.func65 rfl (rnum_ok _ _ _ 1099511627776 _ _ _ bl (encs [sz,pe,to,at0,ix] ++ T9) hl2 hb2 (by rw [encs_cons,List.append_assoc]) (by decide) (by have := hc.kd; have := hc.vo; have := hc.t40; omega) (m28.into [(1,21),(2,25)] (by decide) rfl)) ?_)
 rintro e w31 ⟨p31,c31,rfl,hm31⟩
 have mx31 := m28.back hm31 [(21,1),(26,2)] (by decide); clear hm31 m28
 have m31 := mx31.oz [21,26,1,20,22]
 refine ⟨_,rfl,?_⟩; intro Y U
 have hl3 : ((encs [sz,pe,to,at0,ix] ++ T9)).length ≤ 1000000 := by have h9 := hl2; rw [encs_cons,List.append_assoc,List.length_append] at h9; omega
 have hb3 : BytesL ((encs [sz,pe,to,at0,ix] ++ T9)) := bytes_r (by have h9 := hb2; rw [encs_cons,List.append_assoc] at h9; exact h9)
 refine goCh U (.conv rfl U108 U3 (by have := hc.kd; have := hc.vo; have := hc.t40; exact IntWalk.i64_in _ (by omega))<|.fa 2 rfl U38 .nil) fun Y U =>?_
 refine plz (st1 U m31 22 fct17 fun w35 m35 _ =>?_)
 refine znl (hK5 _ _ ?_)
 replace U := U.oz [0,2,3,4,5]
 refine zsr fun K6 hK6 =>?_
 refine goCh U (.move rfl .nil) fun Y U =>?_
 refine plz (ecl U Tryz.func65 rfl (rnum_ok _ _ _ 1099511627776 _ _ _ sz (encs [pe,to,at0,ix] ++ T9) hl3 hb3 (by rw [encs_cons,List.append_assoc]) (by decide) (by have := hc.kd; have := hc.vo; have := hc.t40; omega) (m35.into [(1,21),(2,26)] (by decide) rfl)) ?_)
 rintro e w39 ⟨p39,c39,rfl,hm39⟩
 have mx39 := m35.back hm39 [(21,1),(27,2)] (by decide); clear hm39 m35
 have m39 := mx39.oz [21,27,1,20,22]
 refine ⟨_,rfl,?_⟩; intro Y U
 have hl4 : ((encs [pe,to,at0,ix] ++ T9)).length ≤ 1000000 := by have h9 := hl3; rw [encs_cons,List.append_assoc,List.length_append] at h9; omega
 have hb4 : BytesL ((encs [pe,to,at0,ix] ++ T9)) := bytes_r (by have h9 := hb3; rw [encs_cons,List.append_assoc] at h9; exact h9)
 refine goCh U (.conv rfl U108 U3 (by have := hc.kd; have := hc.vo; have := hc.t40; exact IntWalk.i64_in _ (by omega))<|.fa 3 rfl U38 .nil) fun Y U =>?_
 refine plz (st1 U m39 22 fct17 fun w43 m43 _ =>?_)
 refine znl (hK6 _ _ ?_)
 refine zsr fun K7 hK7 =>?_
 refine goCh U (.move rfl .nil) fun Y U =>?_
 refine plz (ecl U Tryz.func65 rfl (rnum_ok _ _ _ 1099511627776 _ _ _ pe (encs [to,at0,ix] ++ T9) hl4 hb4 (by rw [encs_cons,List.append_assoc]) (by decide) (by have := hc.kd; have := hc.vo; have := hc.t40; omega) (m43.into [(1,21),(2,27)] (by decide) rfl)) ?_)
 rintro e w46 ⟨p46,c46,rfl,hm46⟩
 have mx46 := m43.back hm46 [(21,1),(28,2)] (by decide); clear hm46 m43
 have m46 := mx46.oz [21,28,1,20,22]
 refine ⟨_,rfl,?_⟩; intro Y U
 have hl5 : ((encs [to,at0,ix] ++ T9)).length ≤ 1000000 := by have h9 := hl4; rw [encs_cons,List.append_assoc,List.length_append] at h9; omega
 have hb5 : BytesL ((encs [to,at0,ix] ++ T9)) := bytes_r (by have h9 := hb4; rw [encs_cons,List.append_assoc] at h9; exact h9)
 refine goCh U (.conv rfl U108 U3 (by have := hc.kd; have := hc.vo; have := hc.t40; exact IntWalk.i64_in _ (by omega))<|.fa 4 rfl U38 .nil) fun Y U =>?_
 refine plz (st1 U m46 22 fct17 fun w50 m50 _ =>?_)
 refine znl (hK7 _ _ ?_)
 replace U := U.oz [0,2,3,4,5]
 refine zsr fun K8 hK8 =>?_
 refine goCh U (.move rfl .nil) fun Y U =>?_
 refine plz (ecl U Tryz.func65 rfl (rnum_ok _ _ _ 1099511627776 _ _ _ to (encs [at0,ix] ++ T9) hl5 hb5 (by rw [encs_cons,List.append_assoc]) (by decide) (by have := hc.kd; have := hc.vo; have := hc.t40; omega) (m50.into [(1,21),(2,28)] (by decide) rfl)) ?_)
 rintro e w54 ⟨p54,c54,rfl,hm54⟩
 have mx54 := m50.back hm54 [(21,1),(29,2)] (by decide); clear hm54 m50
 have m54 := mx54.oz [21,29,1,20,22]
 refine ⟨_,rfl,?_⟩; intro Y U
 have hl6 : ((encs [at0,ix] ++ T9)).length ≤ 1000000 := by have h9 := hl5; rw [encs_cons,List.append_assoc,List.length_append] at h9; omega
 have hb6 : BytesL ((encs [at0,ix] ++ T9)) := bytes_r (by have h9 := hb5; rw [encs_cons,List.append_assoc] at h9; exact h9)
 refine goCh U (.conv rfl U108 U3 (by have := hc.kd; have := hc.vo; have := hc.t40; exact IntWalk.i64_in _ (by omega))<|.fa 6 rfl U38 .nil) fun Y U =>?_
 refine plz (st1 U m54 22 fct17 fun w58 m58 _ =>?_)
 refine znl (hK8 _ _ ?_)
 refine zsr fun K9 hK9 =>?_
 refine goCh U (.move rfl .nil) fun Y U =>?_
 refine plz (ecl U Tryz.func65 rfl (rnum_ok _ _ _ 1099511627776 _ _ _ at0 (encs [ix] ++ T9) hl6 hb6 (by rw [encs_cons,List.append_assoc]) (by decide) (by have := hc.kd; have := hc.vo; have := hc.t40; omega) (m58.into [(1,21),(2,29)] (by decide) rfl)) ?_)
 rintro e w61 ⟨p61,c61,rfl,hm61⟩
 have mx61 := m58.back hm61 [(21,1),(30,2)] (by decide); clear hm61 m58
 have m61 := mx61.oz [21,30,1,20,22]
 refine ⟨_,rfl,?_⟩; intro Y U
 have hl7 : ((encs [ix] ++ T9)).length ≤ 1000000 := by have h9 := hl6; rw [encs_cons,List.append_assoc,List.length_append] at h9; omega
 have hb7 : BytesL ((encs [ix] ++ T9)) := bytes_r (by have h9 := hb6; rw [encs_cons,List.append_assoc] at h9; exact h9)
 refine goCh U (.conv rfl U108 U2 (by have := hc.kd; have := hc.vo; have := hc.t40; exact IntWalk.i64_in _ (by omega))<|.fa 7 rfl U38 .nil) fun Y U =>?_
 refine plz (st1 U m61 22 fct22 fun w65 m65 _ =>?_)
 refine znl (hK9 _ _ ?_)
 replace U := U.oz [0,2,3,4,5,38]
 refine zsr fun K10 hK10 =>?_
 refine goCh U (.move rfl .nil) fun Y U =>?_
 refine plz (ecl U Tryz.func65 rfl (rnum_ok _ _ _ 1099511627776 _ _ _ ix T9 hl7 hb7 (by rw [encs_one]) (by decide) (by have := hc.kd; have := hc.vo; have := hc.t40; omega) (m65.into [(1,21),(2,30)] (by decide) rfl)) ?_)
 rintro e w69 ⟨p69,c69,rfl,hm69⟩
 have mx69 := m65.back hm69 [(21,1),(31,2)] (by decide); clear hm69 m65
 have m69 := mx69.oz [21,31,1,20,22]
 refine ⟨_,rfl,?_⟩; intro Y U
 have hl8 : (T9).length ≤ 1000000 := by have h9 := hl7; rw [encs_one,List.length_append] at h9; omega
 have hb8 : BytesL (T9) := bytes_r (by have h9 := hb7; rw [encs_one] at h9; exact h9)
 refine goCh U (.conv rfl U108 U3 (by have := hc.kd; have := hc.vo; have := hc.t40; exact IntWalk.i64_in _ (by omega))<|.fa 8 rfl U38 .nil) fun Y U =>?_
 refine plz (st1 U m69 22 fct17 fun w73 m73 _ =>?_)
 refine znl (hK10 _ _ ?_)
 refine zsr fun K11 hK11 =>?_
 refine goCh U (.move rfl .nil) fun Y U =>?_
 refine plz (ecl U Tryz.func77 rfl (rtakePlace_x _ _ _ _ _ _ place (enc items.length ++ itemsE items) hl8 hb8 (by rw [← hT9,encs_cons,List.append_assoc]) hc.pl (fun k hk => by have := hc.pb k hk; omega) (m73.into [(1,21),(2,31)] (by decide) rfl)) ?_)
 rintro e w76 ⟨p76,c76,p376,c376,rfl,hm76⟩
 have mx76 := m73.back hm76 [(21,1),(32,2),(33,3)] (by decide); clear hm76 m73
 have m76 := mx76.oz [21,32,33,1,20,22]
 refine ⟨_,rfl,?_⟩; intro Y U
 have hl9 : (enc items.length ++ itemsE items).length ≤ 1000000 := by have h9 := hl8; rw [← hT9,List.length_append] at h9; omega
 have hb9 : BytesL (enc items.length ++ itemsE items) := bytes_r (by have h9 := hb8; rw [← hT9] at h9; exact h9)
 refine goCh U (.fieldAddr (off := 5) rfl U38 rfl (s := 0) (by kernel_rfl) rfl .nil) fun Y U =>?_
 refine plz (st1 U m76 22 fct10 fun w79 m79 _ =>?_)
 refine znl (hK11 _ _ ?_)
 replace U := U.oz [0,2,3,4,5,38]
 refine zsr fun K12 hK12 =>?_
 refine goCh U (.move rfl .nil) fun Y U =>?_
 refine plz (ecl U Tryz.func78 rfl (rtakeItems_x _ _ _ _ _ _ items [] hl9 hb9 (by rw [List.append_nil]) hc.il (fun e he => by have := hc.ib e he; omega) (m79.into [(1,21),(2,32)] (by decide) rfl)) ?_)
 rintro e w83 ⟨p83,c83,p383,c383,rfl,hm83⟩
 have mx83 := m79.back hm83 [(21,1),(34,2),(35,3)] (by decide); clear hm83 m79
 have m83 := mx83.oz [21,34,35,1,20,22,33]
 refine ⟨_,rfl,?_⟩; intro Y U
 refine goCh U (.fieldAddr (off := 9) rfl U38 rfl (s := 0) (by kernel_rfl) rfl .nil) fun Y U =>?_
 refine plz (st1 U m83 22 fct6 fun w86 m86 _ =>?_)
 refine znl (hK12 _ _ ?_)
 refine zsr fun K13 hK13 =>?_
 refine goCh U (.loadBR m86 (i := 22) rfl rfl U38 rfl fct18 (by simp) (by dsimp only [List.drop,List.take] <;> rfl) .nil) fun Y U =>?_
 refine plz (ecl U Tryz.func12 rfl (rputCmd_x kd vo bl sz pe to at0 ix place items _ _ _ _ _ _ ((m86.rd (i := 33) rfl).any) ((m86.rd (i := 35) rfl).any) hc) ?_)
 rintro e w89 ⟨p89,c89,rfl,ho89,hb89⟩
 have m90 := m86.callD 36 rfl hb89 (ho89.cast (fun b hb => Or.inr hb))
 refine ⟨_,rfl,?_⟩; intro Y U
 refine gz hK13 U (.move rfl<|.extract rfl rfl<|.extract rfl rfl<|.assign rfl<|.assign rfl<|.nil) fun Y U =>?_
 refine wsk fun K14 hK14 =>?_
 replace U := U.oz [0,2,3,4,5,38,6,7]
 refine zsr fun K15 hK15 =>?_
 refine goCh U (.move rfl<|.nilCheck rfl<|.fa 1 rfl U115<|.lb m90 21 U3 rfl rfl rfl<|.neq rfl rfl<|.move rfl .nil) fun Y U =>?_
 refine bc U 59 ?_ ?_
 · intro hb _; exact absurd hb (by simp)
 clear U; intro _ U
 refine goCh U (.moveZ rfl<|.neqZ rfl rfl<|.pickF rfl rfl<|.move rfl .nil) fun Y U =>?_
 refine bc U 63 ?_ ?_
 · intro hb _; exact absurd hb (by simp)
 clear U; intro _ U
 refine gz hK15 U (.moveZ rfl<|.strZ rfl (m90.nums (i := 36) rfl) U22 U5 U9<|.moveZ rfl<|.strZ rfl (m90.nums (i := 1) rfl) U22 U5 U9<|.neqSZ rfl rfl<|.pickF rfl rfl<|.nil) fun Y U =>?_
 refine bc U 69 ?_ ?_
 · intro hb _; exact absurd hb (by rw [hE]; simp)
 clear U; intro _ U
 refine wcf U ?_
 refine zss (hK14 _ _ ?_)
 replace U := U.oz [2,3,5,38]
 refine zsr fun K16 hK16 =>?_
 refine goCh U (.loadBR m90 (i := 22) rfl rfl U38 rfl fct18 (by simp) (by dsimp only [List.drop,List.take] <;> rfl) .nil) fun Y U =>?_
 refine plz (stw U m90 20 fct18 fun w126 m126 _ =>?_)
 refine gz hK16 U (.assign rfl .nil) fun Y U =>?_
 refine rtd (retCT (fn := Tryz.f29) U m126 (i := 20) rfl rfl rfl rfl U38 rfl fct18 ?_)
 exact ⟨_,_,_,_,by rw [List.length_map],m126.ren [(1,33),(2,35)] (by decide)⟩
end
section
set_option maxRecDepth 100000
set_option maxHeartbeats 4000000
theorem rfind_x (X : Cx) (B : Nat) (L : List VolV) (p : Option Addr) (c : Nat) (vo : Int) (w0 : World) (hl : L.length ≤ 1000000) (m0 : MemOk X w0 [(1,.box B 32 [.slice p (L.map volD).length c]),(2,.dat (.slice p (L.map volD).length c) (.l 11 (L.map volD)))] w0) :
   Calls Tryz.prog 49 #[.pointer (some ⟨B,0,none⟩),.int .i64 vo] w0 fun e w' => ∃ j : Int,e = .returned (.int .i64 j) ∧ ((j = -1 ∧ ∀ (j : Nat) (e : VolV),L[j]? = some e → e.vo ≠ vo) ∨ ∃ (k : Nat) (e : VolV),j = (k : Int) ∧ L[k]? = some e ∧ e.vo = vo) ∧ MemOk X w0 [(1,.box B 32 [.slice p (L.map volD).length c]),(2,.dat (.slice p (L.map volD).length c) (.l 11 (L.map volD)))] w' := by
 refine ent2 Tryz.func49 rfl Tryz.ntmps49 fun Y U =>?_
 refine regS U (.assign rfl .nil) fun Y U =>?_
 refine wsk fun K0 hK0 =>?_
 refine regS U (.assign rfl .nil) fun Y U =>?_
 refine wp_block ?_
 refine wp_loop_ghost (fun g a w => ∃ (k : Nat),k ≤ L.length ∧ g = L.length - k ∧ (∀ (j : Nat) (e : VolV),j < k → L[j]? = some e → e.vo ≠ vo) ∧ Has 26 [(0,.pointer (some ⟨B,0,none⟩)),(1,.int .i64 vo),(5,.int .i64 k)] a ∧ MemOk X w0 [(1,.box B 32 [.slice p (L.map volD).length c]),(2,.dat (.slice p (L.map volD).length c) (.l 11 (L.map volD)))] w) (L.length) ?_ ?_
 · exact ⟨0,Nat.zero_le _,rfl,fun j e h => by omega,U.only [0,1,5],m0.only [1,2]⟩
 clear U m0
 rintro g Y w3 ⟨k,hkl,hg,hno,U,m3⟩
 refine wsk fun K1 hK1 =>?_
 refine regS U (.move rfl<|.move rfl<|.nilCheck rfl<|.fa 0 rfl U32<|.lb m3 1 U30 rfl rfl rfl<|.len rfl U30<|.lss rfl rfl .nil) fun Y U =>?_
 refine bc U 12 ?_ ?_
 ·
  intro hb11 U; try simp only [QQ,Qax] at hb11
  have hk : k < L.length := by have := hb11; simp at this; omega
  obtain ⟨x9,hes⟩ : ∃ x,L[k]? = some x := ⟨_,List.getElem?_eq_getElem (by simpa using hk)⟩
  refine wct U ?_
  refine zss (hK1 _ _ ?_)
  refine wsk fun K2 hK2 =>?_
  refine wp_block ?_
  replace U := U.oz [0,1,5]
  refine zsr fun K3 hK3 =>?_
  refine goCh U (.move rfl<|.nilCheck rfl<|.fa 0 rfl U32<|.lb m3 1 U30 rfl rfl rfl<|.move rfl .nil) fun Y U =>?_
  obtain ⟨b24,o24,vs24,hp24,hR24,ho24,m24⟩ := m3.openR (i := 2) rfl (k) (r := [.v (.int .i64 x9.vo),.v (.int .i64 x9.bl),.v (.int .i64 x9.sz),.v (.int .i64 x9.pe),.ns .i64 x9.place,.v (.int .i64 x9.to),.v (.int .i64 x9.ne),.v (.bool x9.hi),.v (.int .i64 x9.fl),.ns .i64 x9.pins,.l 2 (x9.ws.map wrD)]) (volD_get hes) 100 rfl
  revert U
  cases hp24; clear m3 ho24
  rcases hR24 with _ | ⟨hd24_0,_ | ⟨hd24_1,_ | ⟨hd24_2,_ | ⟨hd24_3,_ | ⟨hd24_4,_ | ⟨hd24_5,_ | ⟨hd24_6,_ | ⟨hd24_7,_ | ⟨hd24_8,_ | ⟨hd24_9,_ | ⟨hd24_10,_ | _⟩⟩⟩⟩⟩⟩⟩⟩⟩⟩⟩
  obtain rfl := hd24_0.v_out
  clear hd24_0
  obtain rfl := hd24_1.v_out
  clear hd24_1
  obtain rfl := hd24_2.v_out
  clear hd24_2
  obtain rfl := hd24_3.v_out
  clear hd24_3
  obtain ⟨p25,c25,hv25,hc25⟩ := hd24_4.ns_shape; subst hv25
  intro U
  have m25 := m24.dat 101 rfl (hd24_4.cast (fun _ h => (free_add rfl h))); clear m24 hd24_4
  revert U
  obtain rfl := hd24_5.v_out
  clear hd24_5
  obtain rfl := hd24_6.v_out
  clear hd24_6
  obtain rfl := hd24_7.v_out
  clear hd24_7
  obtain rfl := hd24_8.v_out
  clear hd24_8
  obtain ⟨p26,c26,hv26,hc26⟩ := hd24_9.ns_shape; subst hv26
  intro U
  have m26 := m25.dat 102 rfl (hd24_9.cast (fun _ h => (free_add rfl (free_add rfl h)))); clear m25 hd24_9
  revert U
  obtain ⟨p27,c27,hv27,hc27⟩ := hd24_10.l_shape; subst hv27
  intro U
  have m27 := m26.dat 103 rfl (hd24_10.cast (fun _ h => (free_add rfl (free_add rfl (free_add rfl h))))); clear m26 hd24_10
  refine gz hK3 U (.c rfl (fun _ h_ => y_idx h_ rfl rfl U30 fct13 (k) rfl (by simpa using hk))<|.fieldAddrQ 0 rfl U51 rfl (s := 0) (by kernel_rfl) rfl<|.loadC0 m27 (i := 100) rfl rfl U3 rfl<|.move rfl<|.eql rfl rfl<|.nil) fun Y U =>?_
  refine bc U 24 ?_ ?_
  ·
   intro hb33 U; try simp only [QQ,Qax] at hb33
   have heq9 : x9.vo = vo := by simpa using hb33
   refine wct U ?_
   replace U := U.oz [0,1,5]
   refine regS U (.move rfl<|.assign rfl .nil) fun Y U =>?_
   refine rt1 U ?_
   first | exact ⟨k,rfl,Or.inr ⟨k,x9,rfl,hes,heq9⟩,m27.only [1,2]⟩ | exact ⟨-1,rfl,Or.inl ⟨rfl,fun j e he => hno j e (by have := (List.getElem?_eq_some_iff.1 he).1; omega) he⟩,m27.only [1,2]⟩
  intro hb33 U; try simp only [QQ,Qax] at hb33
  have hne9 : x9.vo ≠ vo := by simpa using hb33
  refine wcf U ?_
  refine zss (hK2 _ _ ?_)
  replace U := U.oz [0,1,5]
  refine wp_region_lit ?_
  refine goCh U (.move rfl<|.inc (k + 1)<|.assign rfl .nil) fun Y U =>?_
  refine wpList_nil ?_
  show ∃ n',n' < _ ∧ _
  exact ⟨L.length - (k + 1),by omega,k + 1,by omega,rfl,fun j e hj he => (Nat.lt_or_eq_of_le (Nat.le_of_lt_succ hj)).elim (fun h1 => hno j e h1 he) (fun h1 => by subst h1; rw [hes] at he; obtain rfl := Option.some.inj he; exact hne9),U.only [0,1,5],m27.only [1,2]⟩
 intro hb11 U; try simp only [QQ,Qax] at hb11
 have hkE : k = L.length := by have := hb11; simp at this; omega
 refine wcf U ?_
 refine wp_exit ?_
 refine hK0 _ _ ?_
 replace U := U.oz [0,1,5]
 refine regS U (.assign rfl .nil) fun Y U =>?_
 refine rt1 U ?_
 first | exact ⟨k,rfl,Or.inr ⟨k,x9,rfl,hes,heq9⟩,m3.only [1,2]⟩ | exact ⟨-1,rfl,Or.inl ⟨rfl,fun j e he => hno j e (by have := (List.getElem?_eq_some_iff.1 he).1; omega) he⟩,m3.only [1,2]⟩
end
section
theorem rread_y (X : Cx) (kd vo bl sz pe to at0 ix : Int) (place : List Int) (items : List (Int × List Int)) (p : Option Addr) (c : Nat) (w0 : World) (hc : CmdOk kd vo bl sz pe to at0 ix place items) (m0 : MemOk X w0 [(1,.dat (.slice p (cmdE kd vo bl sz pe to at0 ix place items).length c) (.ns .u8 (cmdE kd vo bl sz pe to at0 ix place items)))] w0) :
   Calls Tryz.prog 29 #[.slice p (cmdE kd vo bl sz pe to at0 ix place items).length c] w0 fun e w' => ∃ (pp : Option Addr) (cp : Nat) (pi : Option Addr) (ci : Nat),e = .returned (.tuple #[.agg #[.int .i64 kd,.int .i64 vo,.int .i64 bl,.int .i64 sz,.int .i64 pe,.slice pp place.length cp,.int .i64 to,.int .i64 at0,.int .i64 ix,.slice pi items.length ci],.int .i64 0]) ∧ MemOk X w0 [(1,.dat (.slice pp place.length cp) (.ns .i64 place)),(2,.dat (.slice pi items.length ci) (.l 2 (items.map itD)))] w' := by
 refine (rreadCmd_x X kd vo bl sz pe to at0 ix place items p c w0 hc m0).mono ?_
 rintro e w' ⟨pp,cp,pi,ci,rfl,m⟩
 rw [List.length_map] at m
 exact ⟨pp,cp,pi,ci,rfl,m⟩
def DoY (x y : VolV) (kd at0 ix : Int) (its : List (Int × List Int)) (e9 : Int) : Prop := y.vo = x.vo ∧ y.bl = x.bl ∧ y.sz = x.sz ∧ y.pe = x.pe ∧ y.place = x.place ∧ y.to = x.to ∧ y.pins = x.pins ∧ doR x.bl x.sz x.to x.ne x.fl x.hi x.pins x.ws kd at0 ix its = (y.ne,y.hi,y.fl,y.ws,e9)
set_option maxRecDepth 100000
set_option maxHeartbeats 4000000
end
section
theorem lists_rd {S : Nat → Prop} {w : World} {v : Value} {ls : List (List Int)} (h : Rd S w v (.l 1 (ls.map bD))) : IsLists w v ls := by
 rcases h.l_out with h0 | ⟨b,off,c,f,rfl,h1,h2,h3,h4,h5⟩
 · have e : ls = [] := List.map_eq_nil_iff.1 h0
   subst e
   obtain ⟨p,c,rfl,-⟩ := h.l_shape
   exact ⟨p,c,rfl,.inl rfl⟩
 refine ⟨_,c,by rw [List.length_map],.inr ⟨b,off,rfl,h2,fun j hj =>?_⟩⟩
 have hj' : j < (ls.map bD).length := by rw [List.length_map]; exact hj
 have h6 := (h4 j 0 hj' (by decide)).1
 refine ⟨_,by rw [show off + j = off + j * 1 + 0 by omega]; exact h6,?_⟩
 have h7 := h5 j 0 (bD (ls.getD j [])) (.ns .u8 (ls.getD j [])) (by rw [List.getElem?_map,List.getD,List.getElem?_eq_getElem hj]; rfl) rfl
 exact h7.ns_out.nums
theorem pput_x (v : Value) (xs : List Int) (w0 : World) (h : Rd (fun _ => True) w0 v (.ns .u64 xs)) (hl : xs.length ≤ 1000) (hxb : ∀ k,k < xs.length → 0 ≤ xs.getD k 0 ∧ xs.getD k 0 ≤ 9223372036854775807) :
   Calls Tryz.prog 104 #[v] w0 fun e w' => ∃ p c,e = .returned (.slice p (encs xs).length c) ∧ w'.ownsRow w0.heap.size 5 1 (.slice p (encs xs).length c) (encs xs).length ((encs xs).map (Value.int .u8)) ∧ Below w0.heap.size w0 w' := by
 refine (put_any v xs w0 h.ns_out.nums (fun j hj => ⟨(hxb j hj).1,by have := (hxb j hj).2; omega⟩) hl).mono fun e w' h =>?_
 obtain ⟨u,rfl,hown,hbel⟩ := h
 obtain ⟨p,c,rfl⟩ := ownsRow_shape hown
 exact ⟨p,c,rfl,hown,hbel⟩
theorem pjoin_x (v : Value) (ls : List (List Int)) (w0 : World) (h : Rd (fun _ => True) w0 v (.l 1 (ls.map bD))) (hl : ls.length ≤ 1000) (hs : sumLen ls ≤ 1000000) :
   Calls Tryz.prog 68 #[v] w0 fun e w' => ∃ p c,e = .returned (.slice p (ls.flatten).length c) ∧ w'.ownsRow w0.heap.size 5 1 (.slice p (ls.flatten).length c) (ls.flatten).length ((ls.flatten).map (Value.int .u8)) ∧ Below w0.heap.size w0 w' := by
 refine (join_any v ls w0 (lists_rd h) hl hs).mono fun e w' h =>?_
 obtain ⟨u,rfl,hown,hbel⟩ := h
 obtain ⟨p,c,rfl⟩ := ownsRow_shape hown
 exact ⟨p,c,rfl,hown,hbel⟩
end
section
section
variable {P : Program} {ops : Array Oper} {Q : Exit → Act → World → Prop} {md : Region.Mode} {listed : Array Bool} {fuel e : Nat} {S : World → Prop} {a : Act} {w : World}
end
end
section
abbrev cxt (w : World) : Cx := cx (fun _ => True) w
theorem MemOk.own_new {w0 w : World} {M : Mm} (m : MemOk (cxt w0) w0 M w) {b : Nat} (h : Own M b) : w0.heap.size ≤ b := by
 obtain ⟨i,r,hl,hb⟩ := h
 have hok := m.ok i r hl
 have hn : ¬ b ∈ (cxt w0).bad := List.not_mem_nil
 cases r with
 | dat v d => cases hb
 | box g e cs => injection hb with hb; subst hb; exact hok.2.resolve_right hn
 | num v e k zs => exact (World.ownsRow.lt hok b hb).1
 | row v e k rows => obtain ⟨cs,q,_⟩ := hok; exact (World.ownsRow.lt q b hb).1
 | cel b o vs => cases hb
 | rowC v e k rows cs => exact (World.ownsRow.lt hok.1 b hb).1
 | seg v e k rows => exact (hok.2 b hb).resolve_right hn
 | any g => injection hb with hb; subst hb; exact hok.2.resolve_right hn
 | gone => cases hb
 | mp g k ks rows => injection hb with hb; subst hb; exact hok.2.resolve_right hn
 | mpE g k es ck rows => injection hb with hb; subst hb; exact hok.2.resolve_right hn
 | obj g o => injection hb with hb; subst hb; exact hok.2.resolve_right hn
theorem MemOk.old {w0 w : World} {M : Mm} (m : MemOk (cxt w0) w0 M w) {S : Nat → Prop} {v : Value} {d : D} (h : Rd S w0 v d) : Rd (Free (cxt w0) M) w v d :=
 h.mono m.keep.2.2.2.1 (fun b hlt _ => ⟨m.keep.2.2.2.2 b hlt (by simp [cx]),fun _ => trivial,fun ho => by have := m.own_new ho; omega⟩)
theorem pjoin_is {v : Value} {ls : List (List Int)} {w0 : World} {S : List Int} (h : Rd (fun _ => True) w0 v (.l 1 (ls.map bD))) (hl : ls.length ≤ 1000) (hs : sumLen ls ≤ 1000000) (hS : ls.flatten = S) :
   Calls Tryz.prog 68 #[v] w0 fun e w' => ∃ p c,e = .returned (.slice p S.length c) ∧ w'.ownsRow w0.heap.size 5 1 (.slice p S.length c) S.length (S.map (Value.int .u8)) ∧ Below w0.heap.size w0 w' := by
 subst hS; exact pjoin_x v ls w0 h hl hs
end
section
set_option maxRecDepth 100000
set_option maxHeartbeats 4000000
theorem mbeq (xs ys : List Int) (p1 p2 : Option Addr) (c1 c2 : Nat) (w0 : World) (h1 : Rd (fun _ => True) w0 (.slice p1 xs.length c1) (.ns .u8 xs)) (h2 : Rd (fun _ => True) w0 (.slice p2 ys.length c2) (.ns .u8 ys)) (hb1 : BytesL xs) (hb2 : BytesL ys) :
   Calls Tryz.prog 64 #[.slice p1 xs.length c1,.slice p2 ys.length c2] w0 fun e w' => e = .returned (.bool (decide (xs = ys))) ∧ Below w0.heap.size w0 w' := by
 refine ent2 Tryz.func64 rfl Tryz.ntmps64 fun Y U =>?_
 have m0 := MemOk.start (fun _ => False) w0
 refine regS U (.assign rfl .nil) fun Y U =>?_
 refine regS U (.move rfl<|.str rfl (h1.now' m0 rfl).ns_out.nums U22 U5 U9<|.move rfl<|.str rfl (h2.now' m0 rfl).ns_out.nums U22 U5 U9<|.eqlS rfl rfl<|.assign rfl .nil) fun Y U =>?_
 refine rt1 U ?_
 exact ⟨by rw [str_beq hb1 hb2],m0.below⟩
end
section
def VolB (x : VolV) : Prop := x.place.length ≤ 1000000 ∧ x.pins.length ≤ 1000000 ∧ x.ws.length ≤ 1000000 ∧ ∀ e ∈ x.ws,e.2.length ≤ 1000000 ∧ ∀ z ∈ e.2,BytesL z.2
abbrev shpE (x y : VolV) : Prop := x.vo = y.vo ∧ x.bl = y.bl ∧ x.sz = y.sz ∧ x.pe = y.pe ∧ x.place = y.place ∧ x.to = y.to
abbrev preE (x y : VolV) : Prop := shpE x y ∧ x.ws.length ≤ y.ws.length ∧ x.ws = y.ws.take x.ws.length
abbrev samE (x y : VolV) : Prop := shpE x y ∧ x.ne = y.ne ∧ x.hi = y.hi ∧ x.fl = y.fl ∧ x.pins = y.pins ∧ x.ws = y.ws
abbrev samP (x y : VolV) : Prop := preE x y ∧ x.ws.length = y.ws.length ∧ x.ne = y.ne ∧ x.hi = y.hi ∧ x.fl = y.fl ∧ x.pins = y.pins
set_option maxRecDepth 100000
set_option maxHeartbeats 4000000
end
section
set_option maxRecDepth 100000
set_option maxHeartbeats 4000000
theorem pnums_x (xs : List Int) (q : Option Addr) (cq : Nat) (w0 : World) (h0 : Rd (fun _ => True) w0 (.slice q xs.length cq) (.ns .i64 xs)) (hl : xs.length ≤ 1000000) (hxb : ∀ k,k < xs.length → 0 ≤ xs.getD k 0 ∧ xs.getD k 0 ≤ 9223372036854775807) :
   Calls Tryz.prog 57 #[.slice q xs.length cq] w0 fun e w' => ∃ (p : Option Addr) (c : Nat),e = .returned (.slice p (encs xs).length c) ∧ w'.ownsRow w0.heap.size 5 1 (.slice p (encs xs).length c) (encs xs).length ((encs xs).map (Value.int .u8)) ∧ Below w0.heap.size w0 w' := by
 refine ent1 Tryz.func57 rfl Tryz.ntmps57 fun Y U =>?_
 have m0 := MemOk.start (fun _ => False) w0
 refine regS U (.assign rfl .nil) fun Y U =>?_
 refine regS U (.assign rfl .nil) fun Y U =>?_
 refine wsk fun K0 hK0 =>?_
 refine regS U (.move rfl<|.len rfl U35<|.move rfl .nil) fun Y U =>?_
 refine wp_block ?_
 refine wp_loop_ghost (fun g a w => ∃ (k : Nat) (b : List Int) (p : Option Addr) (c : Nat),k ≤ xs.length ∧ g = xs.length - k ∧ b = encs (xs.take k) ∧ Has 20 [(3,.slice p b.length c),(6,.slice q xs.length cq),(7,.int .i64 xs.length),(8,.int .i64 k)] a ∧ MemOk (cn w0) w0 [(9,.num (.slice p b.length c) 5 .u8 b)] w) (xs.length) ?_ ?_
 · have mz := m0.nilN 9 5 .u8
   exact ⟨0,[],_,_,Nat.zero_le _,rfl,rfl,U.only [3,6,7,8],mz.only [9]⟩
 clear U m0
 rintro g Y w6 ⟨k,b,p,c,hkl,hg,hbe,U,m6⟩
 refine regS U (.lss rfl rfl .nil) fun Y U =>?_
 refine wsk fun K1 hK1 =>?_
 refine bc U 9 ?_ ?_
 ·
  intro hb8 U; try simp only [QQ,Qax] at hb8
  have hk : k < xs.length := by have := hb8; first | omega | (simp at this; omega)
  have hxk := hxb k hk
  refine wct U ?_
  refine zss (hK1 _ _ ?_)
  refine wsk fun K2 hK2 =>?_
  refine wp_block ?_
  refine zsr fun K3 hK3 =>?_
  obtain ⟨gx10,ox10,hp10,hl10,hrg10⟩ := h0.extN (k) hk
  revert U
  cases hp10
  intro U
  refine gz hK3 U (.c rfl (fun _ h_ => y_idx h_ rfl rfl U35 fct17 (k) rfl hk)<|.loadAt1 (hrg10 m6 rfl) (q := 0) rfl rfl rfl U3 rfl<|.assign rfl<|.nil) fun Y U =>?_
  refine wp_region_lit ?_
  refine goCh U (.move rfl<|.move rfl<|.conv rfl U3 U108 (r := xs.getD k 0) (IntWalk.u64_in _ (by omega)) .nil) fun Y U =>?_
  refine plz (e_litN U m6 100 (k := .u64) rfl rfl U168 fct29 rfl rfl rfl rfl fun g17 Y w18 U m18 =>?_)
  have m19 := m18.freezeN 100 rfl
  refine plz (ecn U Tryz.func104 rfl m19 101 (pput_x _ [xs.getD k 0] _ ((m19.rd (i := 100) rfl).any) (by simp) (one63 (by omega))) fun p20 c20 Y w20 U m21 =>?_)
  refine plz (e_appN U m21 9 rfl rfl rfl (m21.numsO (i := 101) rfl) U22 fct0 (by decide) (by rw [hbe]; have h8 := encs_len (xs.take k); rw [List.length_take] at h8; have h9 := encs_len [xs.getD k 0]; rw [List.length_singleton] at h9; omega) rfl fun p23 c23 Y w24 U m24 =>?_)
  refine gz hK2 U (.assign rfl .nil) fun Y U =>?_
  replace U := U.oz [3,6,7,8]
  refine wp_region_lit ?_
  refine goCh U (.inc (k + 1)<|.move rfl .nil) fun Y U =>?_
  refine wpList_nil ?_
  show ∃ n',n' < _ ∧ _
  exact ⟨xs.length - (k + 1),by omega,k + 1,_,_,_,by omega,rfl,by rw [encs_snoc _ _ hk,← hbe,encs_one],U.only [3,6,7,8],m24.only [9]⟩
 intro hb8 U; try simp only [QQ,Qax] at hb8
 revert U
 obtain rfl : k = xs.length := by have := hb8; first | omega | (simp at this; omega)
 intro U
 refine wcf U ?_
 refine wp_exit ?_
 refine hK0 _ _ ?_
 refine regS U (.move rfl<|.assign rfl .nil) fun Y U =>?_
 refine rt1 U ?_
 rw [List.take_length] at hbe
 revert U
 subst hbe
 intro U
 exact ⟨_,_,rfl,m6.ok 9 _ rfl,m6.below⟩
theorem pnuml_x (xs : List Int) (q : Option Addr) (cq : Nat) (w0 : World) (h0 : Rd (fun _ => True) w0 (.slice q xs.length cq) (.ns .i64 xs)) (hl : xs.length ≤ 1000000) (hxb : ∀ k,k < xs.length → 0 ≤ xs.getD k 0 ∧ xs.getD k 0 ≤ 9223372036854775807) :
   Calls Tryz.prog 138 #[.slice q xs.length cq] w0 fun e w' => ∃ (p : Option Addr) (c : Nat),e = .returned (.slice p (encs xs).length c) ∧ w'.ownsRow w0.heap.size 5 1 (.slice p (encs xs).length c) (encs xs).length ((encs xs).map (Value.int .u8)) ∧ Below w0.heap.size w0 w' := by
 refine ent1 Tryz.func138 rfl Tryz.ntmps138 fun Y U =>?_
 have m0 := MemOk.start (fun _ => False) w0
 refine regS U (.assign rfl .nil) fun Y U =>?_
 refine regS U (.assign rfl .nil) fun Y U =>?_
 refine wsk fun K0 hK0 =>?_
 refine regS U (.move rfl<|.len rfl U48<|.move rfl .nil) fun Y U =>?_
 refine wp_block ?_
 refine wp_loop_ghost (fun g a w => ∃ (k : Nat) (b : List Int) (p : Option Addr) (c : Nat),k ≤ xs.length ∧ g = xs.length - k ∧ b = encs (xs.take k) ∧ Has 20 [(3,.slice p b.length c),(6,.slice q xs.length cq),(7,.int .i64 xs.length),(8,.int .i64 k)] a ∧ MemOk (cn w0) w0 [(9,.num (.slice p b.length c) 5 .u8 b)] w) (xs.length) ?_ ?_
 · have mz := m0.nilN 9 5 .u8
   exact ⟨0,[],_,_,Nat.zero_le _,rfl,rfl,U.only [3,6,7,8],mz.only [9]⟩
 clear U m0
 rintro g Y w6 ⟨k,b,p,c,hkl,hg,hbe,U,m6⟩
 refine regS U (.lss rfl rfl .nil) fun Y U =>?_
 refine wsk fun K1 hK1 =>?_
 refine bc U 9 ?_ ?_
 ·
  intro hb8 U; try simp only [QQ,Qax] at hb8
  have hk : k < xs.length := by have := hb8; first | omega | (simp at this; omega)
  have hxk := hxb k hk
  refine wct U ?_
  refine zss (hK1 _ _ ?_)
  refine wsk fun K2 hK2 =>?_
  refine wp_block ?_
  refine zsr fun K3 hK3 =>?_
  obtain ⟨gx10,ox10,hp10,hl10,hrg10⟩ := h0.extN (k) hk
  revert U
  cases hp10
  intro U
  refine gz hK3 U (.c rfl (fun _ h_ => y_idx h_ rfl rfl U48 fct22 (k) rfl hk)<|.loadAt1 (hrg10 m6 rfl) (q := 0) rfl rfl rfl U2 rfl<|.assign rfl<|.nil) fun Y U =>?_
  refine wp_region_lit ?_
  refine goCh U (.move rfl<|.move rfl<|.conv rfl U2 U108 (r := xs.getD k 0) (IntWalk.u64_in _ (by omega)) .nil) fun Y U =>?_
  refine plz (e_litN U m6 100 (k := .u64) rfl rfl U168 fct29 rfl rfl rfl rfl fun g17 Y w18 U m18 =>?_)
  have m19 := m18.freezeN 100 rfl
  refine plz (ecn U Tryz.func104 rfl m19 101 (pput_x _ [xs.getD k 0] _ ((m19.rd (i := 100) rfl).any) (by simp) (one63 (by omega))) fun p20 c20 Y w20 U m21 =>?_)
  refine plz (e_appN U m21 9 rfl rfl rfl (m21.numsO (i := 101) rfl) U22 fct0 (by decide) (by rw [hbe]; have h8 := encs_len (xs.take k); rw [List.length_take] at h8; have h9 := encs_len [xs.getD k 0]; rw [List.length_singleton] at h9; omega) rfl fun p23 c23 Y w24 U m24 =>?_)
  refine gz hK2 U (.assign rfl .nil) fun Y U =>?_
  replace U := U.oz [3,6,7,8]
  refine wp_region_lit ?_
  refine goCh U (.inc (k + 1)<|.move rfl .nil) fun Y U =>?_
  refine wpList_nil ?_
  show ∃ n',n' < _ ∧ _
  exact ⟨xs.length - (k + 1),by omega,k + 1,_,_,_,by omega,rfl,by rw [encs_snoc _ _ hk,← hbe,encs_one],U.only [3,6,7,8],m24.only [9]⟩
 intro hb8 U; try simp only [QQ,Qax] at hb8
 revert U
 obtain rfl : k = xs.length := by have := hb8; first | omega | (simp at this; omega)
 intro U
 refine wcf U ?_
 refine wp_exit ?_
 refine hK0 _ _ ?_
 refine regS U (.move rfl<|.assign rfl .nil) fun Y U =>?_
 refine rt1 U ?_
 rw [List.take_length] at hbe
 revert U
 subst hbe
 intro U
 exact ⟨_,_,rfl,m6.ok 9 _ rfl,m6.below⟩
end
end Go.Proofs.YtkehgingagggaaaGreat.K
