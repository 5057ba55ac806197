/- General laws of walks. -/
import Derived.Test.YtkehgingagggaaaGreatG9
namespace Go.Proofs.YtkehgingagggaaaGreat.K
open Go.ChangeShapes Go.WideShapes Go.ChangeAt Go.RowKit
set_option linter.unusedVariables false
set_option linter.unusedSimpArgs false
section
theorem fl59ro : flatS Tryz.prog 59 [.int .i64 0,.slice none 0 0] = true := by kernel_rfl
theorem fl103rr : flatS Tryz.prog 103 [.int .i64 0,.slice none 0 0] = true := by kernel_rfl
theorem notin_take {l : List (Int × List Int)} {k : Nat} {xb : Int} (h : ∀ i,i < k → (l.getD i i0).1 ≠ xb) (hk : k ≤ l.length) : ¬ ∃ e ∈ l.take k,e.1 = xb := fun ⟨e,h1,h2⟩ => by
 obtain ⟨j,hj,rfl⟩ := List.getElem_of_mem h1
 have hj2 : j < k := by rw [List.length_take] at hj; omega
 have h3 := h j hj2
 rw [List.getD,List.getElem?_eq_getElem (by omega)] at h3
 rw [List.getElem_take] at h2
 exact h3 h2
set_option maxRecDepth 100000
set_option maxHeartbeats 4000000
theorem ritems_any (bl sz : Int) (l : List (Int × List Int)) (p : Option Addr) (nn c : Nat) (w0 : World) (h0 : Rd (fun _ => True) w0 (.slice p nn c) (.l 2 (l.map itD))) (hl : l.length ≤ 1000000) :
   Calls Tryz.prog 115 #[.int .i64 bl,.int .i64 sz,.slice p nn c] w0 fun e w' => ∃ b : Bool,e = .returned (.bool b) ∧ (b = true ↔ ItemsR bl sz l) ∧ Below w0.heap.size w0 w' := by
 obtain rfl : nn = l.length := by obtain ⟨pq,cq,hv,_⟩ := h0.l_shape; injection hv with _ e2 _; rw [List.length_map] at e2; exact e2
 refine ent3 Tryz.func115 rfl Tryz.ntmps115 fun Y U =>?_
 have m0 := MemOk.start (fun _ => False) w0
 refine regS U (.assign rfl .nil) fun Y U =>?_
 refine wsk fun K0 hK0 =>?_
 refine zsr fun K1 hK1 =>?_
 refine goCh U (.move rfl<|.len rfl U36<|.lss rfl rfl<|.move rfl .nil) fun Y U =>?_
 refine bc U 12 ?_ ?_
 ·
  intro hb10 U; try simp only [QQ,Qax] at hb10
  refine gz hK1 U (.sk<|.sk<|.sk<|.pickT rfl rfl<|.nil) fun Y U =>?_
  refine wct U ?_
  replace U := U.oz [0,1,2,6,12,16]
  refine regS U (.assign rfl .nil) fun Y U =>?_
  refine rt1 U ?_
  exact ⟨false,rfl,iff_of_false (by simp) (fun h => by have h8 := h.1; have h9 := h.2.1; omega),m0.below⟩
 intro hb10 U; try simp only [QQ,Qax] at hb10
 refine gz hK1 U (.moveZ rfl<|.lenZ rfl U36<|.gtrZ rfl rfl<|.pickF rfl rfl<|.nil) fun Y U =>?_
 refine bc U 16 ?_ ?_
 ·
  intro hb21 U; try simp only [QQ,Qax] at hb21
  refine wct U ?_
  replace U := U.oz [0,1,2,6,12,16]
  refine regS U (.assign rfl .nil) fun Y U =>?_
  refine rt1 U ?_
  exact ⟨false,rfl,iff_of_false (by simp) (fun h => by have h8 := h.1; have h9 := h.2.1; omega),m0.below⟩
 intro hb21 U; try simp only [QQ,Qax] at hb21
 refine wcf U ?_
 refine zss (hK0 _ _ ?_)
 refine wsk fun K2 hK2 =>?_
 replace U := U.oz [0,1,2,6,12,16]
 refine regS U (.assign rfl .nil) fun Y U =>?_
 refine wp_block ?_
 refine wp_loop_ghost (fun g a w => ∃ k : Nat,k ≤ l.length ∧ g = l.length - k ∧ ItPre bl sz l k ∧ Has 64 [(0,.int .i64 bl),(1,.int .i64 sz),(2,.slice p l.length c),(7,.int .i64 k)] a ∧ MemOk (cn w0) w0 [] w) (l.length) ?_ ?_
 · exact ⟨0,Nat.zero_le _,rfl,(fun j hj => by omega),U.only [0,1,2,7],m0.only []⟩
 clear U m0
 rintro g Y w26 ⟨k,hkl,hg,hall,U,m26⟩
 refine wsk fun K3 hK3 =>?_
 refine regS U (.move rfl<|.move rfl<|.len rfl U36<|.lss rfl rfl .nil) fun Y U =>?_
 refine bc U 20 ?_ ?_
 ·
  intro hb31 U; try simp only [QQ,Qax] at hb31
  have hk : k < l.length := by omega
  obtain ⟨⟨xb,xd⟩,hes⟩ : ∃ e,l[k]? = some e := ⟨_,List.getElem?_eq_getElem hk⟩
  refine wct U ?_
  refine zss (hK3 _ _ ?_)
  refine wsk fun K4 hK4 =>?_
  refine wp_block ?_
  refine wsk fun K5 hK5 =>?_
  refine zsr fun K6 hK6 =>?_
  refine goCh U (.move rfl<|.move rfl .nil) fun Y U =>?_
  obtain ⟨gx37,ox37,vx37,hp37,hl37,hR37,hrg37⟩ := h0.extA (k) (r := [.v (.int .i64 xb),.ns .u8 xd]) (itD_get hes)
  revert U
  cases hp37
  rcases hR37 with _ | ⟨hd37_0,_ | ⟨hd37_1,_ | _⟩⟩
  obtain rfl := hd37_0.v_out
  clear hd37_0
  obtain ⟨p38,c38,hv38,hw38⟩ := hd37_1.ns_shape; subst hv38
  intro U
  refine goCh U (.c rfl (fun _ h_ => y_idx h_ rfl rfl U36 fct3 (k) rfl hk)<|.fieldAddrQ 0 rfl U59 rfl (s := 0) (by kernel_rfl) rfl<|.loadAt1 (hrg37 m26 rfl) (q := 0) rfl rfl rfl U3 rfl<|.lss rfl rfl<|.move rfl .nil) fun Y U =>?_
  refine bc U 29 ?_ ?_
  ·
   intro hb44 U; try simp only [QQ,Qax] at hb44
   refine gz hK6 U (.sk<|.sk<|.sk<|.sk<|.sk<|.sk<|.sk<|.pickT rfl rfl<|.move rfl<|.sk<|.sk<|.sk<|.sk<|.sk<|.sk<|.sk<|.sk<|.pickT rfl rfl<|.nil) fun Y U =>?_
   refine wct U ?_
   replace U := U.oz [0,1,2,7,20,29,38,47]
   refine regS U (.assign rfl .nil) fun Y U =>?_
   refine rt1 U ?_
   exact ⟨false,rfl,iff_of_false (by simp) (fun h => by have h9 := h.2.2 k hk; rw [getI hes] at h9; dsimp only at h9; omega),m26.below⟩
  intro hb44 U; try simp only [QQ,Qax] at hb44
  refine goCh U (.moveZ rfl<|.moveZ rfl .nil) fun Y U =>?_
  obtain ⟨gx67,ox67,vx67,hp67,hl67,hR67,hrg67⟩ := h0.extA (k) (r := [.v (.int .i64 xb),.ns .u8 xd]) (itD_get hes)
  revert U
  cases hp67
  rcases hR67 with _ | ⟨hd67_0,_ | ⟨hd67_1,_ | _⟩⟩
  obtain rfl := hd67_0.v_out
  clear hd67_0
  obtain ⟨p68,c68,hv68,hw68⟩ := hd67_1.ns_shape; subst hv68
  intro U
  refine goCh U (.g rfl rfl rfl rfl (fun _ h_ => y_idx h_ rfl rfl U36 fct3 (k) rfl hk)<|.fieldAddrQZ 0 rfl U59 rfl (s := 0) (by kernel_rfl) rfl<|.loadAt1Z (hrg67 m26 rfl) (q := 0) rfl rfl rfl U3 rfl<|.moveZ rfl<|.geqZ rfl rfl<|.pickF rfl rfl<|.move rfl .nil) fun Y U =>?_
  refine bc U 38 ?_ ?_
  ·
   intro hb76 U; try simp only [QQ,Qax] at hb76
   refine gz hK6 U (.sk<|.sk<|.sk<|.sk<|.sk<|.sk<|.sk<|.sk<|.pickT rfl rfl<|.nil) fun Y U =>?_
   refine wct U ?_
   replace U := U.oz [0,1,2,7,20,29,38,47]
   refine regS U (.assign rfl .nil) fun Y U =>?_
   refine rt1 U ?_
   exact ⟨false,rfl,iff_of_false (by simp) (fun h => by have h9 := h.2.2 k hk; rw [getI hes] at h9; dsimp only at h9; omega),m26.below⟩
  intro hb76 U; try simp only [QQ,Qax] at hb76
  refine goCh U (.moveZ rfl<|.moveZ rfl .nil) fun Y U =>?_
  obtain ⟨gx90,ox90,vx90,hp90,hl90,hR90,hrg90⟩ := h0.extA (k) (r := [.v (.int .i64 xb),.ns .u8 xd]) (itD_get hes)
  revert U
  cases hp90
  rcases hR90 with _ | ⟨hd90_0,_ | ⟨hd90_1,_ | _⟩⟩
  obtain rfl := hd90_0.v_out
  clear hd90_0
  obtain ⟨p91,c91,hv91,hw91⟩ := hd90_1.ns_shape; subst hv91
  intro U
  refine gz hK6 U (.g rfl rfl rfl rfl (fun _ h_ => y_idx h_ rfl rfl U36 fct3 (k) rfl hk)<|.fieldAddrQZ 1 rfl U59 rfl (s := 0) (by kernel_rfl) rfl<|.loadAt1Z (hrg90 m26 rfl) (q := 1) rfl rfl rfl U22 rfl<|.lenZ rfl U22<|.moveZ rfl<|.neqZ rfl rfl<|.pickF rfl rfl<|.nil) fun Y U =>?_
  refine bc U 47 ?_ ?_
  ·
   intro hb99 U; try simp only [QQ,Qax] at hb99
   refine wct U ?_
   replace U := U.oz [0,1,2,7,20,29,38,47]
   refine regS U (.assign rfl .nil) fun Y U =>?_
   refine rt1 U ?_
   exact ⟨false,rfl,iff_of_false (by simp) (fun h => by have h9 := h.2.2 k hk; rw [getI hes] at h9; dsimp only at h9; omega),m26.below⟩
  intro hb99 U; try simp only [QQ,Qax] at hb99
  refine wcf U ?_
  refine zss (hK5 _ _ ?_)
  replace U := U.oz [0,1,2,7,20,29,38,47]
  refine regS U (.assign rfl .nil) fun Y U =>?_
  refine wp_block ?_
  refine wp_loop_ghost (fun g a w => ∃ j : Nat,j ≤ k ∧ g = k - j ∧ (∀ i,i < j → (l.getD i i0).1 ≠ xb) ∧ Has 64 [(0,.int .i64 bl),(1,.int .i64 sz),(2,.slice (some ⟨gx37,ox37,none⟩) l.length c),(7,.int .i64 k),(8,.int .i64 j)] a ∧ MemOk (cn w0) w0 [] w) (k) ?_ ?_
  · exact ⟨0,Nat.zero_le _,rfl,(fun i hi => by omega),U.only [0,1,2,7,8],m26.only []⟩
  clear U m26
  rintro g Y w104 ⟨j,hjk,hg2,hall2,U,m104⟩
  refine wsk fun K7 hK7 =>?_
  refine regS U (.move rfl<|.move rfl<|.lss rfl rfl .nil) fun Y U =>?_
  refine bc U 50 ?_ ?_
  ·
   intro hb108 U; try simp only [QQ,Qax] at hb108
   have hj : j < k := by omega
   obtain ⟨⟨yb,yd⟩,hej⟩ : ∃ e,l[j]? = some e := ⟨_,List.getElem?_eq_getElem (by omega)⟩
   refine wct U ?_
   refine zss (hK7 _ _ ?_)
   refine wsk fun K8 hK8 =>?_
   refine wp_block ?_
   refine wsk fun K9 hK9 =>?_
   obtain ⟨gx110,ox110,vx110,hp110,hl110,hR110,hrg110⟩ := h0.extA (j) (r := [.v (.int .i64 yb),.ns .u8 yd]) (itD_get hej)
   revert U
   cases hp110
   rcases hR110 with _ | ⟨hd110_0,_ | ⟨hd110_1,_ | _⟩⟩
   obtain rfl := hd110_0.v_out
   clear hd110_0
   obtain ⟨p111,c111,hv111,hw111⟩ := hd110_1.ns_shape; subst hv111
   intro U
   obtain ⟨gx113,ox113,vx113,hp113,hl113,hR113,hrg113⟩ := h0.extA (k) (r := [.v (.int .i64 xb),.ns .u8 xd]) (itD_get hes)
   revert U
   cases hp113
   rcases hR113 with _ | ⟨hd113_0,_ | ⟨hd113_1,_ | _⟩⟩
   obtain rfl := hd113_0.v_out
   clear hd113_0
   obtain ⟨p114,c114,hv114,hw114⟩ := hd113_1.ns_shape; subst hv114
   intro U
   have m115 : MemOk _ _ [] _ := m104.only []; clear m104
   refine region_p 11 (B := []) (m115.to trivial) m115 (by kernel_rfl) (fun w116 hP116 m116 =>?_); clear m115
   refine goR hP116 [0,1,2,3,4,5,6,7,8,9,10] [4,9] 11 0 2047 U (m116.to trivial) (.move rfl<|.move rfl<|.p (fun _ _ h_ => y_idx h_ rfl rfl U36 fct3 (j) rfl (by omega))<|.fieldAddrQ 0 rfl U59 rfl (s := 0) (by kernel_rfl) rfl<|.loadAt1 (fun _ h_ => (hrg110 h_ rfl)) (q := 0) rfl rfl rfl U3 rfl<|.move rfl<|.move rfl<|.p (fun _ _ h_ => y_idx h_ rfl rfl U36 fct3 (k) rfl hk)<|.fieldAddrQ 0 rfl U59 rfl (s := 0) (by kernel_rfl) rfl<|.loadAt1 (fun _ h_ => (hrg113 h_ rfl)) (q := 0) rfl rfl rfl U3 rfl<|.eql rfl rfl .nil) fun Y U =>?_
   refine wpAnyE_done (by kernel_rfl) ?_ _
   refine hK9 _ _ ?_
   refine bc U 63 ?_ ?_
   ·
    intro hb128 U; try simp only [QQ,Qax] at hb128
    refine wct U ?_
    replace U := U.oz [0,1,2,7,8,63]
    refine regS U (.assign rfl .nil) fun Y U =>?_
    refine rt1 U ?_
    exact ⟨false,rfl,iff_of_false (by simp) (fun h => by have h9 := (h.2.2 k hk).2.2.2; rw [getI hes] at h9; exact h9 ⟨_,List.mem_of_getElem? (i := j) (by rw [List.getElem?_take_of_lt hj]; exact hej),hb128⟩),m116.below⟩
   intro hb128 U; try simp only [QQ,Qax] at hb128
   refine wcf U ?_
   refine zss (hK8 _ _ ?_)
   replace U := U.oz [0,1,2,7,8,63]
   refine wp_region_lit ?_
   refine goCh U (.move rfl<|.inc (j + 1)<|.assign rfl .nil) fun Y U =>?_
   refine wpList_nil ?_
   show ∃ n',n' < _ ∧ _
   exact ⟨k - (j + 1),by omega,j + 1,by omega,rfl,ne_snoc hall2 hej hb128,U.only [0,1,2,7,8],m116.only []⟩
  intro hb108 U; try simp only [QQ,Qax] at hb108
  have hjk2 : j = k := by omega
  rw [hjk2] at hall2
  refine wcf U ?_
  refine wp_exit ?_
  refine hK4 _ _ ?_
  refine wp_region_lit ?_
  refine goCh U (.move rfl<|.inc (k + 1)<|.assign rfl .nil) fun Y U =>?_
  refine wpList_nil ?_
  show ∃ n',n' < _ ∧ _
  exact ⟨l.length - (k + 1),by omega,k + 1,by omega,rfl,itpre_snoc hall hes (by omega) (by omega) (notin_take hall2 (by omega)),U.only [0,1,2,7],m104.only []⟩
 intro hb31 U; try simp only [QQ,Qax] at hb31
 revert U
 obtain rfl : k = l.length := by omega
 intro U
 refine wcf U ?_
 refine wp_exit ?_
 refine hK2 _ _ ?_
 refine regS U (.assign rfl .nil) fun Y U =>?_
 refine rt1 U ?_
 exact ⟨true,rfl,iff_of_true rfl ⟨by omega,by omega,hall⟩,m26.below⟩
theorem rlen_any (vo bl sz pe to ne fl : Int) (hi : Bool) (pp pn pw : Option Addr) (np cp nn cn nw cw : Nat) (w0 : World) :
   Calls Tryz.prog 39 #[.agg #[.int .i64 vo,.int .i64 bl,.int .i64 sz,.int .i64 pe,.slice pp np cp,.int .i64 to,.int .i64 ne,.bool hi,.int .i64 fl,.slice pn nn cn,.slice pw nw cw]] w0 fun e w' => e = .returned (.int .i64 (nw : Int)) ∧ Below w0.heap.size w0 w' := by
 refine ent1 Tryz.func39 rfl Tryz.ntmps39 fun Y U =>?_
 have m0 := MemOk.start (fun _ => False) w0
 refine zsr fun K0 hK0 =>?_
 refine plz (e_box U m0 4 (cs := [_,_,_,_,_,_,_,_,_,_,_]) rfl rfl rfl fun g1 Y w2 U m2 _ _ =>?_)
 refine gz hK0 U (.assign rfl .nil) fun Y U =>?_
 refine regS U (.fa 10 rfl U51<|.lb m2 4 U49 rfl rfl rfl<|.len rfl U49<|.assign rfl .nil) fun Y U =>?_
 refine rt1 U ?_
 exact ⟨rfl,m2.below⟩
theorem rlow_any (vo bl sz pe to ne fl : Int) (hi : Bool) (pins : List Int) (pp pn pw : Option Addr) (np cp cn9 nw cw : Nat) (w0 : World) (h1 : Rd (fun _ => True) w0 (.slice pn pins.length cn9) (.ns .i64 pins)) (hp : pins.length ≤ 1000000) :
   Calls Tryz.prog 130 #[.agg #[.int .i64 vo,.int .i64 bl,.int .i64 sz,.int .i64 pe,.slice pp np cp,.int .i64 to,.int .i64 ne,.bool hi,.int .i64 fl,.slice pn pins.length cn9,.slice pw nw cw]] w0 fun e w' => e = .returned (.int .i64 (lowL nw pins)) ∧ Below w0.heap.size w0 w' := by
 refine ent1 Tryz.func130 rfl Tryz.ntmps130 fun Y U =>?_
 have m0 := MemOk.start (fun _ => False) w0
 refine zsr fun K0 hK0 =>?_
 refine plz (e_box U m0 20 (cs := [_,_,_,_,_,_,_,_,_,_,_]) rfl rfl rfl fun g1 Y w2 U m2 _ _ =>?_)
 refine gz hK0 U (.assign rfl .nil) fun Y U =>?_
 refine zsr fun K1 hK1 =>?_
 refine goCh U (.loadBR m2 (i := 20) rfl rfl U51 rfl fct13 (by simp) (by dsimp only [List.drop,List.take] <;> rfl) .nil) fun Y U =>?_
 refine plz (ecb U Tryz.func39 rfl m2 (rlen_any _ _ _ _ _ _ _ _ _ _ _ _ _ _ _ _ _ _) fun Y w6 U m7 =>?_)
 refine gz hK1 U (.assign rfl .nil) fun Y U =>?_
 refine wsk fun K2 hK2 =>?_
 refine regS U (.assign rfl .nil) fun Y U =>?_
 refine wp_block ?_
 refine wp_loop_ghost (fun g a w => ∃ (k B : Nat),k ≤ pins.length ∧ g = pins.length - k ∧ Has 22 [(1,.pointer (some ⟨B,0,none⟩)),(3,.int .i64 (lowL nw (pins.take k))),(4,.int .i64 k)] a ∧ MemOk (cn w0) w0 [(9,.box B 51 [.int .i64 vo,.int .i64 bl,.int .i64 sz,.int .i64 pe,.slice pp np cp,.int .i64 to,.int .i64 ne,.bool hi,.int .i64 fl,.slice pn pins.length cn9,.slice pw nw cw])] w) (pins.length) ?_ ?_
 · exact ⟨0,_,Nat.zero_le _,rfl,U.only [1,3,4],m7.ren [(9,20)] (by decide)⟩
 clear U m7
 rintro g Y w11 ⟨k,B,hkl,hg,U,m11⟩
 refine wsk fun K3 hK3 =>?_
 refine regS U (.move rfl<|.fa 9 rfl U51<|.lb m11 9 U48 rfl rfl rfl<|.len rfl U48<|.lss rfl rfl .nil) fun Y U =>?_
 refine bc U 11 ?_ ?_
 ·
  intro hb17 U; try simp only [QQ,Qax] at hb17
  have hk : k < pins.length := by omega
  refine wct U ?_
  refine zss (hK3 _ _ ?_)
  refine wsk fun K4 hK4 =>?_
  refine wp_block ?_
  refine wp_region_lit ?_
  refine goCh U (.move rfl<|.fa 9 rfl U51<|.lb m11 9 U48 rfl rfl rfl<|.move rfl .nil) fun Y U =>?_
  obtain ⟨gx22,ox22,hp22,hl22,hrg22⟩ := h1.extN (k) hk
  revert U
  cases hp22
  intro U
  refine gz hK4 U (.c rfl (fun _ h_ => y_idx h_ rfl rfl U48 fct22 (k) rfl hk)<|.loadAt1 (hrg22 m11 rfl) (q := 0) rfl rfl rfl U2 rfl<|.c rfl (fun _ h_ => y_min h_ rfl rfl rfl)<|.assign rfl<|.nil) fun Y U =>?_
  replace U := U.oz [1,3,4]
  refine wp_region_lit ?_
  refine goCh U (.move rfl<|.inc (k + 1)<|.assign rfl .nil) fun Y U =>?_
  refine wpList_nil ?_
  show ∃ n',n' < _ ∧ _
  rw [low_snoc hk] at U
  exact ⟨pins.length - (k + 1),by omega,k + 1,_,by omega,rfl,U.only [1,3,4],m11.only [9]⟩
 intro hb17 U; try simp only [QQ,Qax] at hb17
 revert U
 obtain rfl : k = pins.length := by omega
 intro U
 refine wcf U ?_
 refine wp_exit ?_
 refine hK2 _ _ ?_
 refine regS U (.move rfl<|.assign rfl .nil) fun Y U =>?_
 refine rt1 U ?_
 exact ⟨by rw [List.take_length],m11.below⟩
theorem rown_any (es : List (Int × List Int)) (p0 : Option Addr) (c0 nn : Nat) (w0 : World) (h0 : Rd (fun _ => True) w0 (.slice p0 nn c0) (.l 2 (es.map itD))) (hl : es.length ≤ 1000000) (hok : ItsOk es) :
   Calls Tryz.prog 145 #[.slice p0 nn c0] w0 fun e w' => ∃ p c,e = .returned (.slice p (es.map itD).length c) ∧ Rd (New w0) w' (.slice p (es.map itD).length c) (.l 2 (es.map itD)) ∧ Below w0.heap.size w0 w' := by
 obtain rfl : nn = es.length := by obtain ⟨pq,cq,hv,_⟩ := h0.l_shape; injection hv with _ e2 _; rw [List.length_map] at e2; exact e2
 refine ent1 Tryz.func145 rfl Tryz.ntmps145 fun Y U =>?_
 have m0 := MemOk.start (fun _ => False) w0
 refine regS U (.assign rfl .nil) fun Y U =>?_
 refine regS U (.assign rfl .nil) fun Y U =>?_
 refine wsk fun K0 hK0 =>?_
 refine regS U (.assign rfl .nil) fun Y U =>?_
 refine wp_block ?_
 refine wp_loop_ghost (fun g a w => ∃ (k : Nat) (p : Option Addr) (c : Nat),k ≤ es.length ∧ g = es.length - k ∧ Has 27 [(0,.slice p0 es.length c0),(3,.slice p ((es.take k).map itD).length c),(4,.int .i64 k)] a ∧ MemOk (cn w0) w0 [(9,.row (.slice p ((es.take k).map itD).length c) 59 2 ((es.take k).map itD))] w) (es.length) ?_ ?_
 · have mz := m0.nilR 9 59 2
   exact ⟨0,_,_,Nat.zero_le _,rfl,U.only [0,3,4],mz.only [9]⟩
 clear U m0
 rintro g Y w4 ⟨k,p,c,hkl,hg,U,m4⟩
 refine wsk fun K1 hK1 =>?_
 refine regS U (.move rfl<|.move rfl<|.len rfl U36<|.lss rfl rfl .nil) fun Y U =>?_
 refine bc U 8 ?_ ?_
 ·
  intro hb9 U; try simp only [QQ,Qax] at hb9
  have hk : k < es.length := by omega
  obtain ⟨⟨xb,xd⟩,hes⟩ : ∃ e,es[k]? = some e := ⟨_,List.getElem?_eq_getElem hk⟩
  have hed := hok _ (List.mem_of_getElem? hes)
  dsimp only at hed
  refine wct U ?_
  refine zss (hK1 _ _ ?_)
  refine wsk fun K2 hK2 =>?_
  refine wp_block ?_
  obtain ⟨gx11,ox11,vx11,hp11,hl11,hR11,hrg11⟩ := h0.extA (k) (r := [.v (.int .i64 xb),.ns .u8 xd]) (itD_get hes)
  revert U
  cases hp11
  rcases hR11 with _ | ⟨hd11_0,_ | ⟨hd11_1,_ | _⟩⟩
  obtain rfl := hd11_0.v_out
  clear hd11_0
  obtain ⟨p12,c12,hv12,hw12⟩ := hd11_1.ns_shape; subst hv12
  intro U
  obtain ⟨gx14,ox14,vx14,hp14,hl14,hR14,hrg14⟩ := h0.extA (k) (r := [.v (.int .i64 xb),.ns .u8 xd]) (itD_get hes)
  revert U
  cases hp14
  rcases hR14 with _ | ⟨hd14_0,_ | ⟨hd14_1,_ | _⟩⟩
  obtain rfl := hd14_0.v_out
  clear hd14_0
  obtain ⟨p15,c15,hv15,hw15⟩ := hd14_1.ns_shape; subst hv15
  intro U
  have m16 := m4.oz [9]
  refine region_p 14 (B := [(9,_)]) (m16.to ⟨il,trivial⟩) m16 (by kernel_rfl) (fun w17 hP17 m17 =>?_); clear m16
  refine goR hP17 [0,1,2,3,4,5,6,7,8,9,10] [5,10] 11 0 2047 U (m17.to ⟨il,trivial⟩) (.move rfl<|.move rfl<|.move rfl<|.p (fun _ _ h_ => y_idx h_ rfl rfl U36 fct3 (k) rfl hk)<|.fieldAddrQ 0 rfl U59 rfl (s := 0) (by kernel_rfl) rfl<|.loadAt1 (fun _ h_ => (hrg11 h_ rfl)) (q := 0) rfl rfl rfl U3 rfl<|.move rfl<|.move rfl<|.p (fun _ _ h_ => y_idx h_ rfl rfl U36 fct3 (k) rfl hk)<|.fieldAddrQ 1 rfl U59 rfl (s := 0) (by kernel_rfl) rfl<|.loadAt1 (fun _ h_ => (hrg14 h_ rfl)) (q := 1) rfl rfl rfl U22 rfl .nil) fun Y U =>?_
  refine so 11 ?_
  refine e_app0M U m17 102 rfl rfl (hd14_1.now' m17 rfl).ns_out.nums U22 fct0 (by decide) (by omega) rfl fun p29 c29 Y w30 U m30 =>?_
  refine ⟨m30.to ⟨il,trivial⟩,?_⟩
  refine goA hP17 [12] 1 4095 8191 U (m30.to ⟨il,trivial⟩) (.build rfl fct4 fl59ro rfl (by dsimp only [setL,List.set] <;> rfl) .nil) fun Y U =>?_
  have m33 := m30.freezeN 102 rfl
  refine so 13 ?_
  refine e_litR U m33 103 (mm := 2) rfl (.cons rfl rfl (.cons (.v _) (.cons (m33.rd (i := 102) rfl) .nil)) .nil) U36 fct5 rfl rfl rfl rfl rfl fun g32 Y w34 U m34 =>?_
  refine ⟨m34.to ⟨il,trivial⟩,?_⟩
  have m36 := m34.freezeR 103 rfl
  refine se 14 ?_
  refine e_appR U m36 9 rfl rfl rfl (m36.rd (i := 103) rfl) U36 fct5 rfl rfl (by decide) (by simp; omega) rfl fun p35 c35 Y w37 U m37 =>?_
  refine goB hP17 [15] 1 32767 65535 U (.assign rfl .nil) fun Y U =>?_
  refine wpAnyE_done (by kernel_rfl) ?_ _
  refine hK2 _ _ ?_
  replace U := U.oz [0,3,4]
  refine wp_region_lit ?_
  refine goCh U (.move rfl<|.inc (k + 1)<|.assign rfl .nil) fun Y U =>?_
  refine wpList_nil ?_
  show ∃ n',n' < _ ∧ _
  have hE : (es.take k).map itD ++ [[D.v (.int .i64 xb),.ns .u8 xd]] = (es.take (k + 1)).map itD := by rw [take_snoc hes,List.map_append]; rfl
  rw [hE] at m37 U
  exact ⟨es.length - (k + 1),by omega,k + 1,_,_,by omega,rfl,U.only [0,3,4],m37.only [9]⟩
 intro hb9 U; try simp only [QQ,Qax] at hb9
 revert U
 obtain rfl : k = es.length := by omega
 intro U
 refine wcf U ?_
 refine wp_exit ?_
 refine hK0 _ _ ?_
 refine regS U (.move rfl<|.assign rfl .nil) fun Y U =>?_
 refine rt1 U ?_
 rw [List.take_length] at *
 have m45 := m4.freezeR 9 rfl
 exact ⟨_,_,rfl,m45.outF (i := 9) rfl,m45.below⟩
theorem rwrite_fr (X : Cx) (vo bl sz pe to ne fl : Int) (hi : Bool) (place pins : List Int) (ws : List (Int × List (Int × List Int))) (items : List (Int × List Int)) (pp pn pw : Option Addr) (cp cn9 cw : Nat) (pi : Option Addr) (ci : Nat) (w0 : World) (hl : ws.length ≤ 900000) (hil : items.length ≤ 1000000) (hio : ItsOk items) (m0 : MemOk X w0 [(1,.dat (.slice pp place.length cp) (.ns .i64 place)),(2,.dat (.slice pn pins.length cn9) (.ns .i64 pins)),(3,.dat (.slice pw (ws.map wrD).length cw) (.l 2 (ws.map wrD))),(4,.dat (.slice pi items.length ci) (.l 2 (items.map itD)))] w0) :
   Calls Tryz.prog 129 #[.agg #[.int .i64 vo,.int .i64 bl,.int .i64 sz,.int .i64 pe,.slice pp place.length cp,.int .i64 to,.int .i64 ne,.bool hi,.int .i64 fl,.slice pn pins.length cn9,.slice pw (ws.map wrD).length cw],.slice pi items.length ci] w0 fun e w' => ∃ p c,e = .returned (.agg #[.int .i64 vo,.int .i64 bl,.int .i64 sz,.int .i64 pe,.slice pp place.length cp,.int .i64 to,.int .i64 ne,.bool hi,.int .i64 fl,.slice pn pins.length cn9,.slice p ((ws ++ [((ws.length : Int) + 1,items)]).map wrD).length c]) ∧ MemOk X w0 [(1,.dat (.slice pp place.length cp) (.ns .i64 place)),(2,.dat (.slice pn pins.length cn9) (.ns .i64 pins)),(3,.dat (.slice pw (ws.map wrD).length cw) (.l 2 (ws.map wrD))),(4,.dat (.slice pi items.length ci) (.l 2 (items.map itD))),(7,.dat (.slice p ((ws ++ [((ws.length : Int) + 1,items)]).map wrD).length c) (.l 2 ((ws ++ [((ws.length : Int) + 1,items)]).map wrD)))] w' := by
 refine ent2 Tryz.func129 rfl Tryz.ntmps129 fun Y U =>?_
 refine zsr fun K0 hK0 =>?_
 refine plz (e_box U m0 20 (cs := [_,_,_,_,_,_,_,_,_,_,_]) rfl rfl rfl fun g1 Y w2 U m2 _ _ =>?_)
 refine plz (e_alloc U m2 21 fct14 rfl fun g3 Y w4 U m4 _ _ =>?_)
 refine znl (hK0 _ _ ?_)
 refine wsk fun K1 hK1 =>?_
 have m5 := m4.oz [1,2,3,4,20,21]
 refine region_p 12 (B := [(1,_),(2,_),(3,_),(4,_),(20,_),(21,_)]) (m5.to ⟨il,il,il,il,il,il,trivial⟩) m5 (by kernel_rfl) (fun w6 hP6 m6 =>?_); clear m5
 refine goR hP6 [0,1,3,6] [1,3] 4 0 75 U (m6.to ⟨il,il,il,il,il,il,trivial⟩) (.fa 10 rfl U51<|.lb hh 20 U49 rfl rfl rfl<|.loadBR hh (i := 20) rfl rfl U51 rfl fct13 (by simp) (by dsimp only [List.drop,List.take] <;> rfl)<|.move rfl .nil) fun Y U =>?_
 have m11 := m6.nilR 22 103 2
 refine so 2 ?_
 refine e_appR U m11 22 rfl rfl rfl (m11.rd (i := 3) rfl) U49 fct9 rfl rfl (by decide) (by simp; omega) rfl fun p12 c12 Y w13 U m13 =>?_
 refine ⟨m13.to ⟨il,il,il,il,il,il,trivial⟩,?_⟩
 refine so 4 ?_
 refine ecb U Tryz.func39 rfl m13 (rlen_any _ _ _ _ _ _ _ _ _ _ _ _ _ _ _ _ _ _) fun Y w14 U m15 =>?_
 refine ⟨m15.to ⟨il,il,il,il,il,il,trivial⟩,?_⟩
 refine goA hP6 [5] 1 95 127 U (m15.to ⟨il,il,il,il,il,il,trivial⟩) (.add rfl rfl (r := (ws.length : Int) + 1) (by rw [List.length_map]; exact IntWalk.i64_in _ (by omega)) .nil) fun Y U =>?_
 refine so 7 ?_
 refine ecl U Tryz.func145 rfl (rown_any items _ _ _ _ ((m15.rd (i := 4) rfl).any) hil hio) ?_
 rintro e w18 ⟨p18,c18,rfl,hd18,hb18⟩
 have m19 := m15.callF 23 rfl hb18 hd18
 refine ⟨_,rfl,?_⟩; intro Y U
 refine ⟨m19.to ⟨il,il,il,il,il,il,trivial⟩,?_⟩
 refine goA hP6 [8] 1 255 511 U (m19.to ⟨il,il,il,il,il,il,trivial⟩) (.build rfl fct8 fl103rr rfl (by dsimp only [setL,List.set] <;> rfl) .nil) fun Y U =>?_
 refine so 9 ?_
 refine e_litR U m19 24 (mm := 2) rfl (.cons rfl rfl (.cons (.v _) (.cons (m19.rd (i := 23) rfl) .nil)) .nil) U49 fct9 rfl rfl rfl rfl rfl fun g22 Y w23 U m23 =>?_
 refine ⟨m23.to ⟨il,il,il,il,il,il,trivial⟩,?_⟩
 have m25 := m23.freezeR 24 rfl
 refine so 10 ?_
 refine e_appR U m25 22 rfl rfl rfl (m25.rd (i := 24) rfl) U49 fct9 rfl rfl (by decide) (by simp; omega) rfl fun p24 c24 Y w26 U m26 =>?_
 refine ⟨m26.to ⟨il,il,il,il,il,il,trivial⟩,?_⟩
 refine goA hP6 [11] 1 2047 4095 U (m26.to ⟨il,il,il,il,il,il,trivial⟩) (.fa 10 rfl U51 .nil) fun Y U =>?_
 refine se 12 ?_
 refine st1 U m26 20 fct12 fun w28 m28 _ =>?_
 refine wpAnyE_done (by kernel_rfl) ?_ _
 refine hK1 _ _ ?_
 replace U := U.oz [2,4]
 refine zsr fun K2 hK2 =>?_
 refine goCh U (.loadBR m28 (i := 20) rfl rfl U51 rfl fct13 (by simp) (by dsimp only [List.drop,List.take] <;> rfl) .nil) fun Y U =>?_
 refine plz (stw U m28 21 fct13 fun w32 m32 _ =>?_)
 refine znl (hK2 _ _ ?_)
 refine rtd (retC (fn := Tryz.f129) U m32 (i := 21) rfl rfl rfl U51 rfl fct13 ?_)
 have hE : [] ++ ws.map wrD ++ [[D.v (.int .i64 ((ws.length : Int) + 1)),.l 2 (items.map itD)]] = (ws ++ [((ws.length : Int) + 1,items)]).map wrD := by rw [List.map_append]; rfl
 rw [hE] at m32 ⊢
 have m33 := m32.freezeR 22 rfl
 exact ⟨_,_,rfl,m33.ren [(1,1),(2,2),(3,3),(4,4),(7,22)] (by decide)⟩
end
section
set_option maxRecDepth 100000
set_option maxHeartbeats 4000000
end
section
theorem wrapu (z : Int) : 0 ≤ IntKind.u64.wrap z := by
 have e : IntKind.u64.wrap z = z % 18446744073709551616 := by simp [IntKind.wrap,IntKind.signed,IntKind.bits]
 rw [e]; omega
set_option maxRecDepth 100000
set_option maxHeartbeats 4000000
theorem rfail (X : Cx) (B : Nat) (v : Value) (er cd : Int) (w0 : World) (m0 : MemOk X w0 [(1,.box B 115 [v,.int .i64 er])] w0) :
   Calls Tryz.prog 114 #[.pointer (some ⟨B,0,none⟩),.int .i64 cd] w0 fun e w' => e = .returned (.tuple #[]) ∧ MemOk X w0 [(1,.box B 115 [.slice none 0 0,.int .i64 cd])] w' := by
 refine ent2 Tryz.func114 rfl Tryz.ntmps114 fun Y U =>?_
 refine wp_region_lit ?_
 refine goCh U (.move rfl<|.move rfl<|.move rfl<|.nilCheck rfl<|.fa 0 rfl U115 .nil) fun Y U =>?_
 refine plz (st1 U m0 1 fct2 fun w6 m6 _ =>?_)
 refine goCh U (.nilCheck rfl<|.fa 1 rfl U115 .nil) fun Y U =>?_
 refine plz (st1 U m6 1 fct17 fun w9 m9 _ =>?_)
 refine wpList_nil ?_
 try dsimp only [Exit.then,Exit.inBlock]
 try refine out_here ?_
 refine (ret0 (fn := Tryz.f114) U rfl ?_)
 exact ⟨rfl,m9.only [1]⟩
theorem rnum (X : Cx) (B : Nat) (b : List Int) (er mx : Int) (p : Option Addr) (c : Nat) (w0 : World) (hb : b.length ≤ 1000000) (hbb : BytesL b) (hmx : 0 ≤ mx) (m0 : MemOk X w0 [(1,.box B 115 [.slice p b.length c,.int .i64 er]),(2,.dat (.slice p b.length c) (.ns .u8 b))] w0) :
   Calls Tryz.prog 65 #[.pointer (some ⟨B,0,none⟩),.int .u64 mx] w0 fun e w' => ∃ (u : Int) (b' : List Int) (p' : Option Addr) (c' : Nat) (er' : Int),e = .returned (.int .u64 u) ∧ (0 ≤ u ∧ u ≤ mx) ∧ b'.length ≤ b.length ∧ BytesL b' ∧ MemOk X w0 [(1,.box B 115 [.slice p' b'.length c',.int .i64 er']),(2,.dat (.slice p' b'.length c') (.ns .u8 b'))] w' := by
 refine ent2 Tryz.func65 rfl Tryz.ntmps65 fun Y U =>?_
 refine regS U (.assign rfl .nil) fun Y U =>?_
 refine wsk fun K0 hK0 =>?_
 refine regS U (.move rfl<|.nilCheck rfl<|.fa 1 rfl U115<|.lb m0 1 U3 rfl rfl rfl<|.neq rfl rfl .nil) fun Y U =>?_
 refine bc U 12 ?_ ?_
 ·
  intro hb7 U; try simp only [QQ,Qax] at hb7
  refine wct U ?_
  refine regS U (.assign rfl .nil) fun Y U =>?_
  refine rt1 U ?_
  exact ⟨0,b,_,_,_,rfl,⟨by omega,by omega⟩,by omega,hbb,m0.ren [(1,1),(2,2)] (by decide)⟩
 intro hb7 U; try simp only [QQ,Qax] at hb7
 refine wcf U ?_
 refine zss (hK0 _ _ ?_)
 refine regS U (.assign rfl .nil) fun Y U =>?_
 refine wsk fun K1 hK1 =>?_
 refine regS U (.assign rfl .nil) fun Y U =>?_
 refine wp_block ?_
 refine wp_loop_ghost (fun g a w => ∃ (k : Nat) (u : Int),k ≤ b.length ∧ g = b.length - k ∧ 0 ≤ u ∧ Has 73 [(0,.pointer (some ⟨B,0,none⟩)),(1,.int .u64 mx),(5,.int .u64 u),(6,.int .i64 k)] a ∧ MemOk X w0 [(1,.box B 115 [.slice p b.length c,.int .i64 er]),(2,.dat (.slice p b.length c) (.ns .u8 b))] w) (b.length) ?_ ?_
 · exact ⟨0,0,Nat.zero_le _,rfl,Int.le_refl _,U.only [0,1,5,6],m0.only [1,2]⟩
 clear U m0
 rintro g Y w11 ⟨k,u,hkl,hg,hu,U,m11⟩
 refine wsk fun K2 hK2 =>?_
 refine regS U (.move rfl<|.move rfl<|.nilCheck rfl<|.fa 0 rfl U115<|.lb m11 1 U22 rfl rfl rfl<|.len rfl U22<|.lss rfl rfl .nil) fun Y U =>?_
 refine bc U 19 ?_ ?_
 ·
  intro hb19 U; try simp only [QQ,Qax] at hb19
  have hk : k < b.length := by omega
  refine wct U ?_
  refine zss (hK2 _ _ ?_)
  refine wsk fun K3 hK3 =>?_
  refine wp_block ?_
  replace U := U.oz [0,1,5,6]
  refine zsr fun K4 hK4 =>?_
  refine goCh U (.move rfl<|.nilCheck rfl<|.fa 0 rfl U115<|.lb m11 1 U22 rfl rfl rfl<|.move rfl .nil) fun Y U =>?_
  obtain ⟨b32,o32,hp32,m32⟩ := m11.openN (i := 2) rfl (k) hk 100 rfl
  revert U
  cases hp32
  intro U
  refine gz hK4 U (.c rfl (fun _ h_ => y_idx h_ rfl rfl U22 fct15 (k) rfl hk)<|.loadC0 m32 (i := 100) rfl rfl U5 rfl<|.assign rfl<|.nil) fun Y U =>?_
  refine wsk fun K5 hK5 =>?_
  replace U := U.oz [0,1,5,6,7]
  refine zsr fun K6 hK6 =>?_
  refine goCh U (.move rfl<|.eql rfl rfl<|.move rfl .nil) fun Y U =>?_
  refine bc U 31 ?_ ?_
  ·
   intro hb43 U; try simp only [QQ,Qax] at hb43
   refine gz hK6 U (.moveZ rfl<|.gtrZ rfl rfl<|.pickT rfl rfl<|.nil) fun Y U =>?_
   refine bc U 34 ?_ ?_
   ·
    intro hb47 U; try simp only [QQ,Qax] at hb47
    refine wct U ?_
    replace U := U.oz [0,1,5,6,7]
    refine zsr fun K7 hK7 =>?_
    refine goCh U (.move rfl .nil) fun Y U =>?_
    refine plz (ecl U Tryz.func114 rfl (rfail _ _ _ _ _ _ (m32.into [(1,1)] (by decide) rfl)) ?_)
    rintro e w51 ⟨rfl,hm51⟩
    have mx51 := m32.back hm51 [(1,1)] (by decide); clear hm51 m32
    have m51 := mx51.oz [1,2,100]
    refine ⟨_,rfl,?_⟩; intro Y U
    refine znl (hK7 _ _ ?_)
    refine regS U (.assign rfl .nil) fun Y U =>?_
    refine rt1 U ?_
    have m54 := m51.dat 90 rfl (Rd.nilN _ _ .u8 none)
    exact ⟨0,[],_,_,_,rfl,⟨by omega,by omega⟩,by simp,(fun _ h => by cases h),m54.ren [(1,1),(2,90)] (by decide)⟩
   intro hb47 U; try simp only [QQ,Qax] at hb47
   refine wcf U ?_
   refine zss (hK5 _ _ ?_)
   replace U := U.oz [0,1,5,6,7]
   refine regS U (.move rfl<|.move rfl<|.and rfl rfl rfl<|.conv rfl U5 U108 rfl<|.move rfl<|.mul rfl rfl (r := 7 * (k : Int)) (IntWalk.i64_in _ (by omega))<|.shl rfl rfl (by omega) rfl<|.or rfl rfl rfl<|.assign rfl .nil) fun Y U =>?_
   replace U := U.oz [0,1,5,6,7]
   refine regS U (.move rfl<|.lss rfl rfl .nil) fun Y U =>?_
   refine bc U 46 ?_ ?_
   ·
    intro hb68 U; try simp only [QQ,Qax] at hb68
    refine wct U ?_
    refine wsk fun K8 hK8 =>?_
    refine zsr fun K9 hK9 =>?_
    refine goCh U (.move rfl<|.gtr rfl rfl<|.move rfl .nil) fun Y U =>?_
    refine bc U 49 ?_ ?_
    ·
     intro hb75 U; try simp only [QQ,Qax] at hb75
     refine gz hK9 U (.moveZ rfl<|.eqlZ rfl rfl<|.pickT rfl rfl<|.nil) fun Y U =>?_
     refine bc U 52 ?_ ?_
     ·
      intro hb79 U; try simp only [QQ,Qax] at hb79
      refine wct U ?_
      replace U := U.oz [0,1,5,6]
      refine zsr fun K10 hK10 =>?_
      refine goCh U (.move rfl .nil) fun Y U =>?_
      refine plz (ecl U Tryz.func114 rfl (rfail _ _ _ _ _ _ (m32.into [(1,1)] (by decide) rfl)) ?_)
      rintro e w83 ⟨rfl,hm83⟩
      have mx83 := m32.back hm83 [(1,1)] (by decide); clear hm83 m32
      have m83 := mx83.oz [1,2,100]
      refine ⟨_,rfl,?_⟩; intro Y U
      refine znl (hK10 _ _ ?_)
      refine regS U (.assign rfl .nil) fun Y U =>?_
      refine rt1 U ?_
      have m86 := m83.dat 90 rfl (Rd.nilN _ _ .u8 none)
      exact ⟨0,[],_,_,_,rfl,⟨by omega,by omega⟩,by simp,(fun _ h => by cases h),m86.ren [(1,1),(2,90)] (by decide)⟩
     intro hb79 U; try simp only [QQ,Qax] at hb79
     refine wcf U ?_
     refine zss (hK8 _ _ ?_)
     refine wsk fun K11 hK11 =>?_
     replace U := U.oz [0,1,5,6]
     refine regS U (.move rfl<|.move rfl<|.gtr rfl rfl .nil) fun Y U =>?_
     refine bc U 57 ?_ ?_
     ·
      intro hb91 U; try simp only [QQ,Qax] at hb91
      refine wct U ?_
      refine zsr fun K12 hK12 =>?_
      refine goCh U (.move rfl .nil) fun Y U =>?_
      refine plz (ecl U Tryz.func114 rfl (rfail _ _ _ _ _ _ (m32.into [(1,1)] (by decide) rfl)) ?_)
      rintro e w94 ⟨rfl,hm94⟩
      have mx94 := m32.back hm94 [(1,1)] (by decide); clear hm94 m32
      have m94 := mx94.oz [1,2,100]
      refine ⟨_,rfl,?_⟩; intro Y U
      refine znl (hK12 _ _ ?_)
      refine regS U (.assign rfl .nil) fun Y U =>?_
      refine rt1 U ?_
      have m97 := m94.dat 90 rfl (Rd.nilN _ _ .u8 none)
      exact ⟨0,[],_,_,_,rfl,⟨by omega,by omega⟩,by simp,(fun _ h => by cases h),m97.ren [(1,1),(2,90)] (by decide)⟩
     intro hb91 U; try simp only [QQ,Qax] at hb91
     refine wcf U ?_
     refine zss (hK11 _ _ ?_)
     refine zsr fun K13 hK13 =>?_
     refine goCh U (.move rfl<|.move rfl<|.nilCheck rfl<|.fa 0 rfl U115<|.lb m32 1 U22 rfl rfl rfl<|.move rfl<|.inc (k + 1) .nil) fun Y U =>?_
     have m113 := m32.dropN (i := 2) rfl (k + 1) (show k + 1 ≤ b.length by omega) 101 rfl
     refine goCh U (.c rfl (fun _ h_ => y_sliceLn h_ (k + 1) rfl rfl U22 fct15 rfl (show k + 1 ≤ b.length by omega))<|.nilCheck rfl<|.fa 0 rfl U115 .nil) fun Y U =>?_
     refine plz (st1 U m113 1 fct2 fun w117 m117 _ =>?_)
     refine znl (hK13 _ _ ?_)
     replace U := U.oz [0,1,5,6,57]
     refine regS U (.move rfl<|.assign rfl .nil) fun Y U =>?_
     refine rt1 U ?_
     have hl9 : b.length - (k + 1) = (b.drop (k + 1)).length := by rw [List.length_drop]
     rw [hl9] at m117
     exact ⟨_,b.drop (k + 1),_,_,_,rfl,⟨wrapu _,by omega⟩,by rw [List.length_drop]; omega,(fun x hx => hbb x (List.mem_of_mem_drop hx)),m117.ren [(1,1),(2,101)] (by decide)⟩
    intro hb75 U; try simp only [QQ,Qax] at hb75
    refine gz hK9 U (.sk<|.sk<|.pickF rfl rfl<|.nil) fun Y U =>?_
    refine wcf U ?_
    refine zss (hK8 _ _ ?_)
    refine wsk fun K14 hK14 =>?_
    replace U := U.oz [0,1,5,6]
    refine regS U (.move rfl<|.move rfl<|.gtr rfl rfl .nil) fun Y U =>?_
    refine bc U 57 ?_ ?_
    ·
     intro hb128 U; try simp only [QQ,Qax] at hb128
     refine wct U ?_
     refine zsr fun K15 hK15 =>?_
     refine goCh U (.move rfl .nil) fun Y U =>?_
     refine plz (ecl U Tryz.func114 rfl (rfail _ _ _ _ _ _ (m32.into [(1,1)] (by decide) rfl)) ?_)
     rintro e w131 ⟨rfl,hm131⟩
     have mx131 := m32.back hm131 [(1,1)] (by decide); clear hm131 m32
     have m131 := mx131.oz [1,2,100]
     refine ⟨_,rfl,?_⟩; intro Y U
     refine znl (hK15 _ _ ?_)
     refine regS U (.assign rfl .nil) fun Y U =>?_
     refine rt1 U ?_
     have m134 := m131.dat 90 rfl (Rd.nilN _ _ .u8 none)
     exact ⟨0,[],_,_,_,rfl,⟨by omega,by omega⟩,by simp,(fun _ h => by cases h),m134.ren [(1,1),(2,90)] (by decide)⟩
    intro hb128 U; try simp only [QQ,Qax] at hb128
    refine wcf U ?_
    refine zss (hK14 _ _ ?_)
    refine zsr fun K16 hK16 =>?_
    refine goCh U (.move rfl<|.move rfl<|.nilCheck rfl<|.fa 0 rfl U115<|.lb m32 1 U22 rfl rfl rfl<|.move rfl<|.inc (k + 1) .nil) fun Y U =>?_
    have m150 := m32.dropN (i := 2) rfl (k + 1) (show k + 1 ≤ b.length by omega) 101 rfl
    refine goCh U (.c rfl (fun _ h_ => y_sliceLn h_ (k + 1) rfl rfl U22 fct15 rfl (show k + 1 ≤ b.length by omega))<|.nilCheck rfl<|.fa 0 rfl U115 .nil) fun Y U =>?_
    refine plz (st1 U m150 1 fct2 fun w154 m154 _ =>?_)
    refine znl (hK16 _ _ ?_)
    replace U := U.oz [0,1,5,6,57]
    refine regS U (.move rfl<|.assign rfl .nil) fun Y U =>?_
    refine rt1 U ?_
    have hl9 : b.length - (k + 1) = (b.drop (k + 1)).length := by rw [List.length_drop]
    rw [hl9] at m154
    exact ⟨_,b.drop (k + 1),_,_,_,rfl,⟨wrapu _,by omega⟩,by rw [List.length_drop]; omega,(fun x hx => hbb x (List.mem_of_mem_drop hx)),m154.ren [(1,1),(2,101)] (by decide)⟩
   intro hb68 U; try simp only [QQ,Qax] at hb68
   refine wcf U ?_
   refine zss (hK3 _ _ ?_)
   refine wp_region_lit ?_
   refine goCh U (.move rfl<|.inc (k + 1)<|.assign rfl .nil) fun Y U =>?_
   refine wpList_nil ?_
   show ∃ n',n' < _ ∧ _
   exact ⟨b.length - (k + 1),by omega,k + 1,_,by omega,rfl,wrapu _,U.only [0,1,5,6],m32.only [1,2]⟩
  intro hb43 U; try simp only [QQ,Qax] at hb43
  refine gz hK6 U (.sk<|.sk<|.pickF rfl rfl<|.nil) fun Y U =>?_
  refine wcf U ?_
  refine zss (hK5 _ _ ?_)
  replace U := U.oz [0,1,5,6,7]
  refine regS U (.move rfl<|.move rfl<|.and rfl rfl rfl<|.conv rfl U5 U108 rfl<|.move rfl<|.mul rfl rfl (r := 7 * (k : Int)) (IntWalk.i64_in _ (by omega))<|.shl rfl rfl (by omega) rfl<|.or rfl rfl rfl<|.assign rfl .nil) fun Y U =>?_
  replace U := U.oz [0,1,5,6,7]
  refine regS U (.move rfl<|.lss rfl rfl .nil) fun Y U =>?_
  refine bc U 46 ?_ ?_
  ·
   intro hb177 U; try simp only [QQ,Qax] at hb177
   refine wct U ?_
   refine wsk fun K17 hK17 =>?_
   refine zsr fun K18 hK18 =>?_
   refine goCh U (.move rfl<|.gtr rfl rfl<|.move rfl .nil) fun Y U =>?_
   refine bc U 49 ?_ ?_
   ·
    intro hb184 U; try simp only [QQ,Qax] at hb184
    refine gz hK18 U (.moveZ rfl<|.eqlZ rfl rfl<|.pickT rfl rfl<|.nil) fun Y U =>?_
    refine bc U 52 ?_ ?_
    ·
     intro hb188 U; try simp only [QQ,Qax] at hb188
     refine wct U ?_
     replace U := U.oz [0,1,5,6]
     refine zsr fun K19 hK19 =>?_
     refine goCh U (.move rfl .nil) fun Y U =>?_
     refine plz (ecl U Tryz.func114 rfl (rfail _ _ _ _ _ _ (m32.into [(1,1)] (by decide) rfl)) ?_)
     rintro e w192 ⟨rfl,hm192⟩
     have mx192 := m32.back hm192 [(1,1)] (by decide); clear hm192 m32
     have m192 := mx192.oz [1,2,100]
     refine ⟨_,rfl,?_⟩; intro Y U
     refine znl (hK19 _ _ ?_)
     refine regS U (.assign rfl .nil) fun Y U =>?_
     refine rt1 U ?_
     have m195 := m192.dat 90 rfl (Rd.nilN _ _ .u8 none)
     exact ⟨0,[],_,_,_,rfl,⟨by omega,by omega⟩,by simp,(fun _ h => by cases h),m195.ren [(1,1),(2,90)] (by decide)⟩
    intro hb188 U; try simp only [QQ,Qax] at hb188
    refine wcf U ?_
    refine zss (hK17 _ _ ?_)
    refine wsk fun K20 hK20 =>?_
    replace U := U.oz [0,1,5,6]
    refine regS U (.move rfl<|.move rfl<|.gtr rfl rfl .nil) fun Y U =>?_
    refine bc U 57 ?_ ?_
    ·
     intro hb200 U; try simp only [QQ,Qax] at hb200
     refine wct U ?_
     refine zsr fun K21 hK21 =>?_
     refine goCh U (.move rfl .nil) fun Y U =>?_
     refine plz (ecl U Tryz.func114 rfl (rfail _ _ _ _ _ _ (m32.into [(1,1)] (by decide) rfl)) ?_)
     rintro e w203 ⟨rfl,hm203⟩
     have mx203 := m32.back hm203 [(1,1)] (by decide); clear hm203 m32
     have m203 := mx203.oz [1,2,100]
     refine ⟨_,rfl,?_⟩; intro Y U
     refine znl (hK21 _ _ ?_)
     refine regS U (.assign rfl .nil) fun Y U =>?_
     refine rt1 U ?_
     have m206 := m203.dat 90 rfl (Rd.nilN _ _ .u8 none)
     exact ⟨0,[],_,_,_,rfl,⟨by omega,by omega⟩,by simp,(fun _ h => by cases h),m206.ren [(1,1),(2,90)] (by decide)⟩
    intro hb200 U; try simp only [QQ,Qax] at hb200
    refine wcf U ?_
    refine zss (hK20 _ _ ?_)
    refine zsr fun K22 hK22 =>?_
    refine goCh U (.move rfl<|.move rfl<|.nilCheck rfl<|.fa 0 rfl U115<|.lb m32 1 U22 rfl rfl rfl<|.move rfl<|.inc (k + 1) .nil) fun Y U =>?_
    have m222 := m32.dropN (i := 2) rfl (k + 1) (show k + 1 ≤ b.length by omega) 101 rfl
    refine goCh U (.c rfl (fun _ h_ => y_sliceLn h_ (k + 1) rfl rfl U22 fct15 rfl (show k + 1 ≤ b.length by omega))<|.nilCheck rfl<|.fa 0 rfl U115 .nil) fun Y U =>?_
    refine plz (st1 U m222 1 fct2 fun w226 m226 _ =>?_)
    refine znl (hK22 _ _ ?_)
    replace U := U.oz [0,1,5,6,57]
    refine regS U (.move rfl<|.assign rfl .nil) fun Y U =>?_
    refine rt1 U ?_
    have hl9 : b.length - (k + 1) = (b.drop (k + 1)).length := by rw [List.length_drop]
    rw [hl9] at m226
    exact ⟨_,b.drop (k + 1),_,_,_,rfl,⟨wrapu _,by omega⟩,by rw [List.length_drop]; omega,(fun x hx => hbb x (List.mem_of_mem_drop hx)),m226.ren [(1,1),(2,101)] (by decide)⟩
   intro hb184 U; try simp only [QQ,Qax] at hb184
   refine gz hK18 U (.sk<|.sk<|.pickF rfl rfl<|.nil) fun Y U =>?_
   refine wcf U ?_
   refine zss (hK17 _ _ ?_)
   refine wsk fun K23 hK23 =>?_
   replace U := U.oz [0,1,5,6]
   refine regS U (.move rfl<|.move rfl<|.gtr rfl rfl .nil) fun Y U =>?_
   refine bc U 57 ?_ ?_
   ·
    intro hb237 U; try simp only [QQ,Qax] at hb237
    refine wct U ?_
    refine zsr fun K24 hK24 =>?_
    refine goCh U (.move rfl .nil) fun Y U =>?_
    refine plz (ecl U Tryz.func114 rfl (rfail _ _ _ _ _ _ (m32.into [(1,1)] (by decide) rfl)) ?_)
    rintro e w240 ⟨rfl,hm240⟩
    have mx240 := m32.back hm240 [(1,1)] (by decide); clear hm240 m32
    have m240 := mx240.oz [1,2,100]
    refine ⟨_,rfl,?_⟩; intro Y U
    refine znl (hK24 _ _ ?_)
    refine regS U (.assign rfl .nil) fun Y U =>?_
    refine rt1 U ?_
    have m243 := m240.dat 90 rfl (Rd.nilN _ _ .u8 none)
    exact ⟨0,[],_,_,_,rfl,⟨by omega,by omega⟩,by simp,(fun _ h => by cases h),m243.ren [(1,1),(2,90)] (by decide)⟩
   intro hb237 U; try simp only [QQ,Qax] at hb237
   refine wcf U ?_
   refine zss (hK23 _ _ ?_)
   refine zsr fun K25 hK25 =>?_
   refine goCh U (.move rfl<|.move rfl<|.nilCheck rfl<|.fa 0 rfl U115<|.lb m32 1 U22 rfl rfl rfl<|.move rfl<|.inc (k + 1) .nil) fun Y U =>?_
   have m259 := m32.dropN (i := 2) rfl (k + 1) (show k + 1 ≤ b.length by omega) 101 rfl
   refine goCh U (.c rfl (fun _ h_ => y_sliceLn h_ (k + 1) rfl rfl U22 fct15 rfl (show k + 1 ≤ b.length by omega))<|.nilCheck rfl<|.fa 0 rfl U115 .nil) fun Y U =>?_
   refine plz (st1 U m259 1 fct2 fun w263 m263 _ =>?_)
   refine znl (hK25 _ _ ?_)
   replace U := U.oz [0,1,5,6,57]
   refine regS U (.move rfl<|.assign rfl .nil) fun Y U =>?_
   refine rt1 U ?_
   have hl9 : b.length - (k + 1) = (b.drop (k + 1)).length := by rw [List.length_drop]
   rw [hl9] at m263
   exact ⟨_,b.drop (k + 1),_,_,_,rfl,⟨wrapu _,by omega⟩,by rw [List.length_drop]; omega,(fun x hx => hbb x (List.mem_of_mem_drop hx)),m263.ren [(1,1),(2,101)] (by decide)⟩
  intro hb177 U; try simp only [QQ,Qax] at hb177
  refine wcf U ?_
  refine zss (hK3 _ _ ?_)
  refine wp_region_lit ?_
  refine goCh U (.move rfl<|.inc (k + 1)<|.assign rfl .nil) fun Y U =>?_
  refine wpList_nil ?_
  show ∃ n',n' < _ ∧ _
  exact ⟨b.length - (k + 1),by omega,k + 1,_,by omega,rfl,wrapu _,U.only [0,1,5,6],m32.only [1,2]⟩
 intro hb19 U; try simp only [QQ,Qax] at hb19
 refine wcf U ?_
 refine wp_exit ?_
 refine hK1 _ _ ?_
 replace U := U.oz [0,1,5,6]
 refine zsr fun K26 hK26 =>?_
 refine goCh U (.move rfl .nil) fun Y U =>?_
 refine plz (ecl U Tryz.func114 rfl (rfail _ _ _ _ _ _ (m11.into [(1,1)] (by decide) rfl)) ?_)
 rintro e w273 ⟨rfl,hm273⟩
 have mx273 := m11.back hm273 [(1,1)] (by decide); clear hm273 m11
 have m273 := mx273.oz [1,2]
 refine ⟨_,rfl,?_⟩; intro Y U
 refine znl (hK26 _ _ ?_)
 refine regS U (.assign rfl .nil) fun Y U =>?_
 refine rt1 U ?_
 have m276 := m273.dat 90 rfl (Rd.nilN _ _ .u8 none)
 exact ⟨0,[],_,_,_,rfl,⟨by omega,by omega⟩,by simp,(fun _ h => by cases h),m276.ren [(1,1),(2,90)] (by decide)⟩
end
section
set_option maxRecDepth 100000
set_option maxHeartbeats 4000000
theorem rtakePlace (X : Cx) (B : Nat) (b : List Int) (er : Int) (p : Option Addr) (c : Nat) (w0 : World) (hb : b.length ≤ 1000000) (hbb : BytesL b) (m0 : MemOk X w0 [(1,.box B 115 [.slice p b.length c,.int .i64 er]),(2,.dat (.slice p b.length c) (.ns .u8 b))] w0) :
   Calls Tryz.prog 77 #[.pointer (some ⟨B,0,none⟩)] w0 fun e w' => ∃ (pl b' : List Int) (p' : Option Addr) (c' : Nat) (er' : Int) (p3 : Option Addr) (c3 : Nat),e = .returned (.slice p3 pl.length c3) ∧ pl.length ≤ 256 ∧ b'.length ≤ b.length ∧ BytesL b' ∧ MemOk X w0 [(1,.box B 115 [.slice p' b'.length c',.int .i64 er']),(2,.dat (.slice p' b'.length c') (.ns .u8 b')),(3,.dat (.slice p3 pl.length c3) (.ns .i64 pl))] w' := by
 refine ent1 Tryz.func77 rfl Tryz.ntmps77 fun Y U =>?_
 refine regS U (.assign rfl .nil) fun Y U =>?_
 refine regS U (.assign rfl .nil) fun Y U =>?_
 refine zsr fun K0 hK0 =>?_
 refine goCh U (.move rfl .nil) fun Y U =>?_
 refine plz (ecl U Tryz.func65 rfl (rnum _ _ b _ 256 _ _ _ (by omega) hbb (by decide) (m0.into [(1,1),(2,2)] (by decide) rfl)) ?_)
 rintro e w5 ⟨un,b2,p5,c5,er5,rfl,huun,hbl2,hbb2,hm5⟩
 have mx5 := m0.back hm5 [(1,1),(2,2)] (by decide); clear hm5 m0
 have m5 := mx5.oz [1,2]
 refine ⟨_,rfl,?_⟩; intro Y U
 refine gz hK0 U (.assign rfl .nil) fun Y U =>?_
 refine wsk fun K1 hK1 =>?_
 refine regS U (.assign rfl .nil) fun Y U =>?_
 refine wp_block ?_
 refine wp_loop_ghost (fun g a w => ∃ (k : Nat) (pl b1 : List Int) (p1 : Option Addr) (c1 : Nat) (er1 : Int) (p3 : Option Addr) (c3 : Nat),(k : Int) ≤ un ∧ g = un.toNat - k ∧ pl.length ≤ k ∧ b1.length ≤ b.length ∧ BytesL b1 ∧ Has 27 [(0,.pointer (some ⟨B,0,none⟩)),(3,.slice p3 pl.length c3),(4,.int .u64 un),(5,.int .u64 (k : Int))] a ∧ MemOk X w0 [(1,.box B 115 [.slice p1 b1.length c1,.int .i64 er1]),(2,.dat (.slice p1 b1.length c1) (.ns .u8 b1)),(9,.num (.slice p3 pl.length c3) 3 .i64 pl)] w) (un.toNat) ?_ ?_
 · have mz := m5.nilN 9 3 .i64
   exact ⟨0,[],b2,_,_,_,_,_,by omega,rfl,Nat.le_refl _,hbl2,hbb2,U.only [0,3,4,5],mz.only [1,2,9]⟩
 clear U m5
 rintro g Y w9 ⟨k,pl,b1,p1,c1,er1,p3,c3,hku,hg,hpl,hbl1,hbb1,U,m9⟩
 refine wsk fun K2 hK2 =>?_
 refine zsr fun K3 hK3 =>?_
 refine goCh U (.move rfl<|.move rfl<|.lss rfl rfl<|.move rfl .nil) fun Y U =>?_
 refine bc U 11 ?_ ?_
 ·
  intro hb18 U; try simp only [QQ,Qax] at hb18
  refine gz hK3 U (.moveZ rfl<|.nilCheckZ rfl<|.faZ 1 rfl U115<|.loadB1Z m9 (i := 1) rfl rfl rfl U3 rfl<|.eqlZ rfl rfl<|.pickT rfl rfl<|.nil) fun Y U =>?_
  refine bc U 17 ?_ ?_
  ·
   intro hb25 U; try simp only [QQ,Qax] at hb25
   refine wct U ?_
   refine zss (hK2 _ _ ?_)
   refine wsk fun K4 hK4 =>?_
   refine wp_block ?_
   replace U := U.oz [0,3,4,5]
   refine wp_region_lit ?_
   refine goCh U (.move rfl<|.move rfl .nil) fun Y U =>?_
   refine plz (ecl U Tryz.func65 rfl (rnum _ _ b1 _ 8 _ _ _ (by omega) hbb1 (by decide) (m9.into [(1,1),(2,2)] (by decide) rfl)) ?_)
   rintro e w29 ⟨uv,b2,p29,c29,er29,rfl,huuv,hbl2,hbb2,hm29⟩
   have mx29 := m9.back hm29 [(1,1),(2,2)] (by decide); clear hm29 m9
   have m29 := mx29.oz [1,2,9]
   refine ⟨_,rfl,?_⟩; intro Y U
   refine goCh U (.conv rfl U108 U3 (r := uv) (IntWalk.i64_in _ (by omega)) .nil) fun Y U =>?_
   refine plz (e_litN U m29 100 (k := .i64) rfl rfl U35 fct16 rfl rfl rfl rfl fun g32 Y w33 U m33 =>?_)
   refine plz (e_appN U m33 9 rfl rfl rfl (m33.numsO (i := 100) rfl) U35 fct16 (by decide) (by simp; omega) rfl fun p34 c34 Y w35 U m35 =>?_)
   refine gz hK4 U (.assign rfl .nil) fun Y U =>?_
   replace U := U.oz [0,3,4,5]
   refine wp_region_lit ?_
   refine goCh U (.move rfl<|.add rfl rfl (r := ((k + 1 : Nat) : Int)) (by rw [IntWalk.u64_in _ (by omega)]; omega)<|.assign rfl .nil) fun Y U =>?_
   refine wpList_nil ?_
   show ∃ n',n' < _ ∧ _
   exact ⟨un.toNat - (k + 1),by omega,k + 1,_,b2,_,_,_,_,_,by omega,rfl,by simp; omega,by omega,hbb2,U.only [0,3,4,5],m35.only [1,2,9]⟩
  intro hb25 U; try simp only [QQ,Qax] at hb25
  refine wcf U ?_
  refine wp_exit ?_
  refine hK1 _ _ ?_
  replace U := U.oz [0,3,4,5]
  refine regS U (.move rfl<|.assign rfl .nil) fun Y U =>?_
  refine rt1 U ?_
  have m44 := m9.freezeN 9 rfl
  exact ⟨pl,b1,_,_,_,_,_,rfl,by omega,hbl1,hbb1,m44.ren [(1,1),(2,2),(3,9)] (by decide)⟩
 intro hb18 U; try simp only [QQ,Qax] at hb18
 refine gz hK3 U (.sk<|.sk<|.sk<|.sk<|.sk<|.pickF rfl rfl<|.nil) fun Y U =>?_
 refine wcf U ?_
 refine wp_exit ?_
 refine hK1 _ _ ?_
 replace U := U.oz [0,3,4,5]
 refine regS U (.move rfl<|.assign rfl .nil) fun Y U =>?_
 refine rt1 U ?_
 have m54 := m9.freezeN 9 rfl
 exact ⟨pl,b1,_,_,_,_,_,rfl,by omega,hbl1,hbb1,m54.ren [(1,1),(2,2),(3,9)] (by decide)⟩
end
section
set_option maxRecDepth 100000
set_option maxHeartbeats 4000000
theorem rlumpR (X : Cx) (B : Nat) (b : List Int) (er mx : Int) (p : Option Addr) (c : Nat) (w0 : World) (hb : b.length ≤ 1000000) (hbb : BytesL b) (hmx : 0 ≤ mx ∧ mx ≤ 1000000) (m0 : MemOk X w0 [(1,.box B 115 [.slice p b.length c,.int .i64 er]),(2,.dat (.slice p b.length c) (.ns .u8 b))] w0) :
   Calls Tryz.prog 120 #[.pointer (some ⟨B,0,none⟩),.int .i64 mx] w0 fun e w' => ∃ (d b' : List Int) (p' : Option Addr) (c' : Nat) (er' : Int) (p3 : Option Addr) (c3 : Nat),e = .returned (.slice p3 d.length c3) ∧ (d.length : Int) ≤ mx ∧ BytesL d ∧ b'.length ≤ b.length ∧ BytesL b' ∧ MemOk X w0 [(1,.box B 115 [.slice p' b'.length c',.int .i64 er']),(2,.dat (.slice p' b'.length c') (.ns .u8 b')),(3,.dat (.slice p3 d.length c3) (.ns .u8 d))] w' := by
 refine ent2 Tryz.func120 rfl Tryz.ntmps120 fun Y U =>?_
 refine regS U (.assign rfl .nil) fun Y U =>?_
 refine zsr fun K0 hK0 =>?_
 refine goCh U (.move rfl<|.move rfl<|.c rfl (fun _ h_ => y_max h_ rfl rfl (r := mx) (by omega))<|.conv rfl U3 U108 (r := mx) (IntWalk.u64_in _ (by omega)) .nil) fun Y U =>?_
 refine plz (ecl U Tryz.func65 rfl (rnum _ _ b _ mx _ _ _ hb hbb hmx.1 (m0.into [(1,1),(2,2)] (by decide) rfl)) ?_)
 rintro e w10 ⟨u,b2,p10,c10,er10,rfl,hu,hbl2,hbb2,hm10⟩
 have mx10 := m0.back hm10 [(1,1),(2,2)] (by decide); clear hm10 m0
 have m10 := mx10.oz [1,2]
 refine ⟨_,rfl,?_⟩; intro Y U
 refine gz hK0 U (.assign rfl .nil) fun Y U =>?_
 refine wsk fun K1 hK1 =>?_
 replace U := U.oz [0,4,5]
 refine regS U (.move rfl<|.nilCheck rfl<|.fa 1 rfl U115<|.lb m10 1 U3 rfl rfl rfl<|.neq rfl rfl .nil) fun Y U =>?_
 refine bc U 16 ?_ ?_
 ·
  intro hb19 U; try simp only [QQ,Qax] at hb19
  refine wct U ?_
  refine regS U (.assign rfl .nil) fun Y U =>?_
  refine rt1 U ?_
  have m21 := m10.dat 20 rfl (Rd.nilN _ _ .u8 none)
  exact ⟨[],b2,_,_,_,_,_,rfl,by simpa using hmx.1,(fun _ h => by cases h),hbl2,hbb2,m21.ren [(1,1),(2,2),(3,20)] (by decide)⟩
 intro hb19 U; try simp only [QQ,Qax] at hb19
 refine wcf U ?_
 refine zss (hK1 _ _ ?_)
 refine wsk fun K2 hK2 =>?_
 refine regS U (.move rfl<|.move rfl<|.nilCheck rfl<|.fa 0 rfl U115<|.lb m10 1 U22 rfl rfl rfl<|.len rfl U22<|.conv rfl U3 U108 (r := (b2.length : Int)) (IntWalk.u64_in _ (by omega))<|.gtr rfl rfl .nil) fun Y U =>?_
 refine bc U 24 ?_ ?_
 ·
  intro hb30 U; try simp only [QQ,Qax] at hb30
  refine wct U ?_
  replace U := U.oz [0,4,5]
  refine zsr fun K3 hK3 =>?_
  refine goCh U (.move rfl .nil) fun Y U =>?_
  refine plz (ecl U Tryz.func114 rfl (rfail _ _ _ _ _ _ (m10.into [(1,1)] (by decide) rfl)) ?_)
  rintro e w34 ⟨rfl,hm34⟩
  have mx34 := m10.back hm34 [(1,1)] (by decide); clear hm34 m10
  have m34 := mx34.oz [1,2]
  refine ⟨_,rfl,?_⟩; intro Y U
  refine znl (hK3 _ _ ?_)
  refine regS U (.assign rfl .nil) fun Y U =>?_
  refine rt1 U ?_
  have m37 := m34.dat 20 rfl (Rd.nilN _ _ .u8 none)
  have m38 := m37.dat 21 rfl (Rd.nilN _ _ .u8 none)
  exact ⟨[],[],_,_,_,_,_,rfl,by simpa using hmx.1,(fun _ h => by cases h),by simp,(fun _ h => by cases h),m38.ren [(1,1),(2,21),(3,20)] (by decide)⟩
 intro hb30 U; try simp only [QQ,Qax] at hb30
 obtain ⟨un,hune⟩ : ∃ n : Nat,u = (n : Int) := ⟨u.toNat,by omega⟩
 have hun : un ≤ b2.length := by omega
 refine wcf U ?_
 refine zss (hK2 _ _ ?_)
 replace U := U.oz [0,4,5]
 refine zsr fun K4 hK4 =>?_
 refine goCh U (.move rfl<|.nilCheck rfl<|.fa 0 rfl U115<|.lb m10 1 U22 rfl rfl rfl<|.move rfl .nil) fun Y U =>?_
 have hcap51 := (m10.rd (i := 2) rfl).ns_out.cap
 have m51 := m10.takeN (i := 2) rfl un hun 20 rfl
 refine gz hK4 U (.c rfl (fun _ h_ => y_sliceHn h_ un rfl rfl U22 fct15 hune (Nat.le_trans hun hcap51.1))<|.assign rfl<|.nil) fun Y U =>?_
 replace U := U.oz [0,4,5,6]
 refine zsr fun K5 hK5 =>?_
 refine goCh U (.move rfl<|.move rfl<|.nilCheck rfl<|.fa 0 rfl U115<|.lb m51 1 U22 rfl rfl rfl<|.move rfl .nil) fun Y U =>?_
 have m68 := m51.dropN (i := 2) rfl un hun 21 rfl
 refine goCh U (.c rfl (fun _ h_ => y_sliceLn h_ un rfl rfl U22 fct15 hune hun)<|.nilCheck rfl<|.fa 0 rfl U115 .nil) fun Y U =>?_
 refine plz (st1 U m68 1 fct2 fun w72 m72 _ =>?_)
 refine znl (hK5 _ _ ?_)
 replace U := U.oz [4,6]
 refine regS U (.move rfl<|.assign rfl .nil) fun Y U =>?_
 refine rt1 U ?_
 have hl8 : un = (b2.take un).length := by rw [List.length_take]; omega
 have hl9 : b2.length - un = (b2.drop un).length := by rw [List.length_drop]
 exact ⟨b2.take un,b2.drop un,_,_,_,_,_,by rw [← hl8],by rw [← hl8]; omega,(fun x hx => hbb2 x (List.mem_of_mem_take hx)),by rw [← hl9]; omega,(fun x hx => hbb2 x (List.mem_of_mem_drop hx)),by rw [← hl8,← hl9]; exact m72.ren [(1,1),(2,21),(3,20)] (by decide)⟩
end
section
set_option maxRecDepth 100000
set_option maxHeartbeats 4000000
end
section
def ItsS (es : List (Int × List Int)) : Prop := ∀ e ∈ es,e.2.length ≤ 1000 ∧ BytesL e.2
set_option maxRecDepth 100000
set_option maxHeartbeats 4000000
end
section
theorem fl59tI : flatS Tryz.prog 59 [.int .i64 0,.slice none 0 0] = true := by kernel_rfl
theorem its_snoc {es : List (Int × List Int)} {x : Int × List Int} (h : (∀ e ∈ es,e.2.length ≤ 32 ∧ BytesL e.2)) (hx : x.2.length ≤ 32 ∧ BytesL x.2) : ∀ e ∈ es ++ [x],e.2.length ≤ 32 ∧ BytesL e.2 := fun e he => by
 rcases List.mem_append.1 he with h1 | h1
 · exact h e h1
 rw [List.mem_singleton.1 h1]; exact hx
set_option maxRecDepth 100000
set_option maxHeartbeats 4000000
theorem rtakeItems (X : Cx) (B : Nat) (b : List Int) (er : Int) (p : Option Addr) (c : Nat) (w0 : World) (hb : b.length ≤ 1000000) (hbb : BytesL b) (m0 : MemOk X w0 [(1,.box B 115 [.slice p b.length c,.int .i64 er]),(2,.dat (.slice p b.length c) (.ns .u8 b))] w0) :
   Calls Tryz.prog 78 #[.pointer (some ⟨B,0,none⟩)] w0 fun e w' => ∃ (es : List (Int × List Int)) (b' : List Int) (p' : Option Addr) (c' : Nat) (er' : Int) (p3 : Option Addr) (c3 : Nat),e = .returned (.slice p3 (es.map itD).length c3) ∧ es.length ≤ 8 ∧ (∀ e ∈ es,e.2.length ≤ 32 ∧ BytesL e.2) ∧ b'.length ≤ b.length ∧ BytesL b' ∧ MemOk X w0 [(1,.box B 115 [.slice p' b'.length c',.int .i64 er']),(2,.dat (.slice p' b'.length c') (.ns .u8 b')),(3,.dat (.slice p3 (es.map itD).length c3) (.l 2 (es.map itD)))] w' := by
 refine ent1 Tryz.func78 rfl Tryz.ntmps78 fun Y U =>?_
 refine regS U (.assign rfl .nil) fun Y U =>?_
 refine regS U (.assign rfl .nil) fun Y U =>?_
 refine zsr fun K0 hK0 =>?_
 refine goCh U (.move rfl .nil) fun Y U =>?_
 refine plz (ecl U Tryz.func65 rfl (rnum _ _ b _ 8 _ _ _ (by omega) hbb (by decide) (m0.into [(1,1),(2,2)] (by decide) rfl)) ?_)
 rintro e w5 ⟨un,b2,p5,c5,er5,rfl,huun,hbl2,hbb2,hm5⟩
 have mx5 := m0.back hm5 [(1,1),(2,2)] (by decide); clear hm5 m0
 have m5 := mx5.oz [1,2]
 refine ⟨_,rfl,?_⟩; intro Y U
 refine gz hK0 U (.assign rfl .nil) fun Y U =>?_
 refine wsk fun K1 hK1 =>?_
 refine regS U (.assign rfl .nil) fun Y U =>?_
 refine wp_block ?_
 refine wp_loop_ghost (fun g a w => ∃ (k : Nat) (es : List (Int × List Int)) (b1 : List Int) (p1 : Option Addr) (c1 : Nat) (er1 : Int) (p3 : Option Addr) (c3 : Nat),(k : Int) ≤ un ∧ g = un.toNat - k ∧ es.length ≤ k ∧ (∀ e ∈ es,e.2.length ≤ 32 ∧ BytesL e.2) ∧ b1.length ≤ b.length ∧ BytesL b1 ∧ Has 33 [(0,.pointer (some ⟨B,0,none⟩)),(3,.slice p3 (es.map itD).length c3),(4,.int .u64 un),(5,.int .u64 (k : Int))] a ∧ MemOk X w0 [(1,.box B 115 [.slice p1 b1.length c1,.int .i64 er1]),(2,.dat (.slice p1 b1.length c1) (.ns .u8 b1)),(9,.row (.slice p3 (es.map itD).length c3) 59 2 (es.map itD))] w) (un.toNat) ?_ ?_
 · have mz := m5.nilR 9 59 2
   exact ⟨0,[],b2,_,_,_,_,_,by omega,rfl,Nat.le_refl _,(fun e h => by cases h),hbl2,hbb2,U.only [0,3,4,5],mz.only [1,2,9]⟩
 clear U m5
 rintro g Y w9 ⟨k,es,b1,p1,c1,er1,p3,c3,hku,hg,hel,hes,hbl1,hbb1,U,m9⟩
 refine wsk fun K2 hK2 =>?_
 refine zsr fun K3 hK3 =>?_
 refine goCh U (.move rfl<|.move rfl<|.lss rfl rfl<|.move rfl .nil) fun Y U =>?_
 refine bc U 12 ?_ ?_
 ·
  intro hb18 U; try simp only [QQ,Qax] at hb18
  refine gz hK3 U (.moveZ rfl<|.nilCheckZ rfl<|.faZ 1 rfl U115<|.loadB1Z m9 (i := 1) rfl rfl rfl U3 rfl<|.eqlZ rfl rfl<|.pickT rfl rfl<|.nil) fun Y U =>?_
  refine bc U 18 ?_ ?_
  ·
   intro hb25 U; try simp only [QQ,Qax] at hb25
   refine wct U ?_
   refine zss (hK2 _ _ ?_)
   refine wsk fun K4 hK4 =>?_
   refine wp_block ?_
   replace U := U.oz [0,3,4,5]
   refine zsr fun K5 hK5 =>?_
   refine goCh U (.move rfl .nil) fun Y U =>?_
   refine plz (ecl U Tryz.func65 rfl (rnum _ _ b1 _ 256 _ _ _ (by omega) hbb1 (by decide) (m9.into [(1,1),(2,2)] (by decide) rfl)) ?_)
   rintro e w29 ⟨uv,b3,p29,c29,er29,rfl,huuv,hbl3,hbb3,hm29⟩
   have mx29 := m9.back hm29 [(1,1),(2,2)] (by decide); clear hm29 m9
   have m29 := mx29.oz [1,2,9]
   refine ⟨_,rfl,?_⟩; intro Y U
   refine gz hK5 U (.conv rfl U108 U3 (r := uv) (IntWalk.i64_in _ (by omega))<|.assign rfl<|.nil) fun Y U =>?_
   refine wp_region_lit ?_
   refine goCh U (.move rfl<|.move rfl<|.move rfl .nil) fun Y U =>?_
   refine plz (ecl U Tryz.func120 rfl (rlumpR _ _ b3 _ 32 _ _ _ (by omega) hbb3 (by decide) (m29.into [(1,1),(2,2)] (by decide) rfl)) ?_)
   rintro e w36 ⟨xd,b4,p36,c36,er36,p336,c336,rfl,hxd,hbxd,hbl4,hbb4,hm36⟩
   have mx36 := m29.back hm36 [(1,1),(2,2),(100,3)] (by decide); clear hm36 m29
   have m36 := mx36.oz [1,2,100,9]
   refine ⟨_,rfl,?_⟩; intro Y U
   refine plz (e_app0N U m36 101 rfl rfl (m36.nums (i := 100) rfl) U22 fct0 (by decide) (by omega) rfl fun p38 c38 Y w39 U m39 =>?_)
   refine goCh U (.build rfl fct4 fl59tI rfl (by dsimp only [setL,List.set] <;> rfl) .nil) fun Y U =>?_
   have m42 := m39.freezeN 101 rfl
   refine plz (e_litR U m42 102 (mm := 2) rfl (.cons rfl rfl (.cons (.v _) (.cons (m42.rd (i := 101) rfl) .nil)) .nil) U36 fct5 rfl rfl rfl rfl rfl fun g41 Y w43 U m43 =>?_)
   have m45 := m43.freezeR 102 rfl
   refine plz (e_appR U m45 9 rfl rfl rfl (m45.rd (i := 102) rfl) U36 fct5 rfl rfl (by decide) (by simp; omega) rfl fun p44 c44 Y w46 U m46 =>?_)
   refine gz hK4 U (.assign rfl .nil) fun Y U =>?_
   replace U := U.oz [0,3,4,5]
   refine wp_region_lit ?_
   refine goCh U (.move rfl<|.add rfl rfl (r := ((k + 1 : Nat) : Int)) (by rw [IntWalk.u64_in _ (by omega)]; omega)<|.assign rfl .nil) fun Y U =>?_
   refine wpList_nil ?_
   show ∃ n',n' < _ ∧ _
   have hE : es.map itD ++ [[D.v (.int .i64 uv),.ns .u8 xd]] = (es ++ [(uv,xd)]).map itD := by rw [List.map_append]; rfl
   rw [hE] at m46 U
   exact ⟨un.toNat - (k + 1),by omega,k + 1,es ++ [(uv,xd)],b4,_,_,_,_,_,by omega,rfl,by simp; omega,its_snoc hes ⟨by have := hxd; simp only; omega,hbxd⟩,by omega,hbb4,U.only [0,3,4,5],m46.only [1,2,9]⟩
  intro hb25 U; try simp only [QQ,Qax] at hb25
  refine wcf U ?_
  refine wp_exit ?_
  refine hK1 _ _ ?_
  replace U := U.oz [0,3,4,5]
  refine regS U (.move rfl<|.assign rfl .nil) fun Y U =>?_
  refine rt1 U ?_
  have m55 := m9.freezeR 9 rfl
  exact ⟨es,b1,_,_,_,_,_,rfl,by omega,hes,hbl1,hbb1,m55.ren [(1,1),(2,2),(3,9)] (by decide)⟩
 intro hb18 U; try simp only [QQ,Qax] at hb18
 refine gz hK3 U (.sk<|.sk<|.sk<|.sk<|.sk<|.pickF rfl rfl<|.nil) fun Y U =>?_
 refine wcf U ?_
 refine wp_exit ?_
 refine hK1 _ _ ?_
 replace U := U.oz [0,3,4,5]
 refine regS U (.move rfl<|.assign rfl .nil) fun Y U =>?_
 refine rt1 U ?_
 have m65 := m9.freezeR 9 rfl
 exact ⟨es,b1,_,_,_,_,_,rfl,by omega,hes,hbl1,hbb1,m65.ren [(1,1),(2,2),(3,9)] (by decide)⟩
end
end Go.Proofs.YtkehgingagggaaaGreat.K
