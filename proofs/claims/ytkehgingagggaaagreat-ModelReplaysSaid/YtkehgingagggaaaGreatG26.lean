/- General laws of walks. -/
import Derived.Test.YtkehgingagggaaaGreatG25
import Derived.Test.YtkehgingagggaaaGreatG12
namespace Go.Proofs.YtkehgingagggaaaGreat.K
open Go.ChangeShapes Go.WideShapes Go.ChangeAt Go.RowKit
set_option linter.unusedVariables false
set_option linter.unusedSimpArgs false
section
theorem volS_B {n : Nat} {x : VolV} (h : VolS n x) (hn : n ≤ 800000) : VolB x := by
 have h2 := h.sm
 obtain ⟨g1,g2,g3,g4,g5⟩ := h
 exact ⟨by omega,by omega,by omega,fun e he => ⟨by have := g1.its.2 e he; omega,g5 e he⟩⟩
theorem samPE (x y : VolV) : (decide (samP x y) == decide (samE x y)) = true := by
 rw [show decide (samP x y) = decide (samE x y) from decide_eq_decide.2 samP_iff]; exact beq_self_eq_true _
theorem boolT {P : Program} {f : FuncId} {aa : Array Value} {w : World} {b : Bool} {N : Nat} (h : b = true) (hc : Calls P f aa w fun e w' => e = .returned (.bool b) ∧ Below N w w') : Calls P f aa w fun e w' => e = .returned (.bool true) ∧ Below N w w' := h ▸ hc
theorem callF2 {w w' w0 : World} {X : Cx} {M : Mm} (m : MemOk X w0 M w) (i j : Nat) {u v : Value} {d e : D} (hi : lk M i = none) (hj : lk ((i,.dat u d) :: M) j = none) (hb : Below w.heap.size w w') (h1 : Rd (New w) w' u d) (h2 : Rd (New w) w' v e) : MemOk X w0 ((j,.dat v e) :: (i,.dat u d) :: M) w' :=
 (m.callF i hi hb h1).dat j hj (h2.cast (fun b hb => free_add rfl (m.free_out (.inr hb))))
set_option maxRecDepth 100000
set_option maxHeartbeats 4000000
end
section
theorem small_take {l : List PWr} {k : Nat} {e : PWr} (h : ∀ e ∈ l.take k,e.2.length ≤ 12) (hes : l[k]? = some e) (he : e.2.length ≤ 12) : ∀ e ∈ l.take (k + 1),e.2.length ≤ 12 := snoc_all h hes he
set_option maxRecDepth 100000
set_option maxHeartbeats 4000000
theorem small_any (x : VolV) (p1 p2 p3 : Option Addr) (d1 d2 d3 : Nat) (w0 : World) (h1 : Rd (fun _ => True) w0 (.slice p1 x.place.length d1) (.ns .i64 x.place)) (h2 : Rd (fun _ => True) w0 (.slice p2 x.pins.length d2) (.ns .i64 x.pins)) (h3 : Rd (fun _ => True) w0 (.slice p3 (x.ws.map wrD).length d3) (.l 2 (x.ws.map wrD))) (hwl : ∀ e ∈ x.ws,e.2.length ≤ 140737488351232) :
   Calls Tryz.prog 32 #[.agg #[.int .i64 x.vo,.int .i64 x.bl,.int .i64 x.sz,.int .i64 x.pe,.slice p1 x.place.length d1,.int .i64 x.to,.int .i64 x.ne,.bool x.hi,.int .i64 x.fl,.slice p2 x.pins.length d2,.slice p3 (x.ws.map wrD).length d3]] w0 fun e w' => ∃ b : Bool,e = .returned (.bool b) ∧ (b = true → x.place.length ≤ 40 ∧ x.pins.length ≤ 20 ∧ x.ws.length ≤ 30 ∧ ∀ e ∈ x.ws,e.2.length ≤ 12) ∧ Below w0.heap.size w0 w' := by
 refine ent1 Tryz.func32 rfl Tryz.ntmps32 fun Y U =>?_
 have m0 := MemOk.start (fun _ => False) w0
 refine zsr fun K0 hK0 =>?_
 refine plz (e_box U m0 20 (cs := [_,_,_,_,_,_,_,_,_,_,_]) rfl rfl rfl fun g1 Y w2 U m2 _ _ =>?_)
 refine gz hK0 U (.assign rfl .nil) fun Y U =>?_
 refine wsk fun K1 hK1 =>?_
 refine zsr fun K2 hK2 =>?_
 refine goCh U (.fa 1 rfl U51<|.lb m2 20 U3 rfl rfl rfl<|.gtr rfl rfl<|.move rfl .nil) fun Y U =>?_
 refine bc U 7 ?_ ?_
 ·
  intro hb12 U; try simp only [QQ,Qax] at hb12
  refine gz hK2 U (.sk<|.sk<|.sk<|.pickT rfl rfl<|.move rfl<|.sk<|.sk<|.sk<|.sk<|.pickT rfl rfl<|.move rfl<|.sk<|.sk<|.sk<|.sk<|.pickT rfl rfl<|.move rfl<|.sk<|.sk<|.sk<|.sk<|.pickT rfl rfl<|.nil) fun Y U =>?_
  refine wct U ?_
  replace U := U.oz [1,2]
  refine regS U (.assign rfl .nil) fun Y U =>?_
  refine rt1 U ?_
  exact ⟨false,rfl,(fun h => by cases h),m2.below⟩
 intro hb12 U; try simp only [QQ,Qax] at hb12
 refine goCh U (.faZ 2 rfl U51<|.loadB1Z m2 (i := 20) rfl rfl rfl U3 rfl<|.gtrZ rfl rfl<|.pickF rfl rfl<|.move rfl .nil) fun Y U =>?_
 refine bc U 12 ?_ ?_
 ·
  intro hb42 U; try simp only [QQ,Qax] at hb42
  refine gz hK2 U (.sk<|.sk<|.sk<|.sk<|.pickT rfl rfl<|.move rfl<|.sk<|.sk<|.sk<|.sk<|.pickT rfl rfl<|.move rfl<|.sk<|.sk<|.sk<|.sk<|.pickT rfl rfl<|.nil) fun Y U =>?_
  refine wct U ?_
  replace U := U.oz [1,2]
  refine regS U (.assign rfl .nil) fun Y U =>?_
  refine rt1 U ?_
  exact ⟨false,rfl,(fun h => by cases h),m2.below⟩
 intro hb42 U; try simp only [QQ,Qax] at hb42
 have hb12 := hb42
 refine goCh U (.faZ 4 rfl U51<|.loadB1Z m2 (i := 20) rfl rfl rfl U35 rfl<|.lenZ rfl U35<|.gtrZ rfl rfl<|.pickF rfl rfl<|.move rfl .nil) fun Y U =>?_
 refine bc U 18 ?_ ?_
 ·
  intro hb68 U; try simp only [QQ,Qax] at hb68
  refine gz hK2 U (.sk<|.sk<|.sk<|.sk<|.pickT rfl rfl<|.move rfl<|.sk<|.sk<|.sk<|.sk<|.pickT rfl rfl<|.nil) fun Y U =>?_
  refine wct U ?_
  replace U := U.oz [1,2]
  refine regS U (.assign rfl .nil) fun Y U =>?_
  refine rt1 U ?_
  exact ⟨false,rfl,(fun h => by cases h),m2.below⟩
 intro hb68 U; try simp only [QQ,Qax] at hb68
 have hb18 := hb68
 refine goCh U (.faZ 9 rfl U51<|.loadB1Z m2 (i := 20) rfl rfl rfl U48 rfl<|.lenZ rfl U48<|.gtrZ rfl rfl<|.pickF rfl rfl<|.move rfl .nil) fun Y U =>?_
 refine bc U 24 ?_ ?_
 ·
  intro hb88 U; try simp only [QQ,Qax] at hb88
  refine gz hK2 U (.sk<|.sk<|.sk<|.sk<|.pickT rfl rfl<|.nil) fun Y U =>?_
  refine wct U ?_
  replace U := U.oz [1,2]
  refine regS U (.assign rfl .nil) fun Y U =>?_
  refine rt1 U ?_
  exact ⟨false,rfl,(fun h => by cases h),m2.below⟩
 intro hb88 U; try simp only [QQ,Qax] at hb88
 have hb24 := hb88
 refine gz hK2 U (.faZ 10 rfl U51<|.loadB1Z m2 (i := 20) rfl rfl rfl U49 rfl<|.lenZ rfl U49<|.gtrZ rfl rfl<|.pickF rfl rfl<|.nil) fun Y U =>?_
 refine bc U 29 ?_ ?_
 ·
  intro hb101 U; try simp only [QQ,Qax] at hb101
  refine wct U ?_
  replace U := U.oz [1,2]
  refine regS U (.assign rfl .nil) fun Y U =>?_
  refine rt1 U ?_
  exact ⟨false,rfl,(fun h => by cases h),m2.below⟩
 intro hb101 U; try simp only [QQ,Qax] at hb101
 have hb29 := hb101
 have hB : x.place.length ≤ 40 ∧ x.pins.length ≤ 20 ∧ x.ws.length ≤ 30 := by simp at hb12 hb18 hb24 hb29; omega
 refine wcf U ?_
 refine zss (hK1 _ _ ?_)
 refine wsk fun K3 hK3 =>?_
 replace U := U.oz [1,2]
 refine regS U (.assign rfl .nil) fun Y U =>?_
 refine wp_block ?_
 refine wp_loop_ghost (fun g a w => ∃ (k B1 : Nat),k ≤ x.ws.length ∧ g = x.ws.length - k ∧ (∀ e ∈ x.ws.take k,e.2.length ≤ 12) ∧ Has 45 [(1,.pointer (some ⟨B1,0,none⟩)),(3,.int .i64 k)] a ∧ MemOk (cn w0) w0 [(9,.box B1 51 [.int .i64 x.vo,.int .i64 x.bl,.int .i64 x.sz,.int .i64 x.pe,.slice p1 x.place.length d1,.int .i64 x.to,.int .i64 x.ne,.bool x.hi,.int .i64 x.fl,.slice p2 x.pins.length d2,.slice p3 (x.ws.map wrD).length d3])] w) (x.ws.length) ?_ ?_
 · exact ⟨0,_,Nat.zero_le _,rfl,(fun e he => by simp at he),U.only [1,3],m2.ren [(9,20)] (by decide)⟩
 clear U m2
 rintro g Y w106 ⟨k,B1,hkl,hg,hall,U,m106⟩
 refine wsk fun K4 hK4 =>?_
 refine regS U (.move rfl<|.fa 10 rfl U51<|.lb m106 9 U49 rfl rfl rfl<|.len rfl U49<|.lss rfl rfl .nil) fun Y U =>?_
 refine bc U 34 ?_ ?_
 ·
  intro hb112 U; try simp only [QQ,Qax] at hb112
  have hk : k < x.ws.length := by have := hb112; simp at this; omega
  obtain ⟨⟨xs,xl⟩,hes⟩ : ∃ e,x.ws[k]? = some e := ⟨_,List.getElem?_eq_getElem hk⟩
  refine wct U ?_
  refine zss (hK4 _ _ ?_)
  refine wsk fun K5 hK5 =>?_
  refine wp_block ?_
  refine zsr fun K6 hK6 =>?_
  refine goCh U (.fa 10 rfl U51<|.lb m106 9 U49 rfl rfl rfl<|.move rfl .nil) fun Y U =>?_
  obtain ⟨gx120,ox120,vx120,hp120,hl120,hR120,hrg120⟩ := h3.extA (k) (r := [.v (.int .i64 xs),.l 2 (xl.map itD)]) (wrD_get hes)
  revert U
  cases hp120
  rcases hR120 with _ | ⟨hd120_0,_ | ⟨hd120_1,_ | _⟩⟩
  obtain rfl := hd120_0.v_out
  clear hd120_0
  obtain ⟨p121,c121,hv121,hw121⟩ := hd120_1.l_shape; subst hv121
  intro U
  refine goCh U (.c rfl (fun _ h_ => y_idx h_ rfl rfl U49 fct7 (k) rfl (by simpa using hk))<|.fieldAddrQ 1 rfl U103 rfl (s := 0) (by kernel_rfl) rfl<|.loadAt1 (hrg120 m106 rfl) (q := 1) rfl rfl rfl U36 rfl .nil) fun Y U =>?_
  refine plz (ecl U Tryz.func43 rfl (smallI_any xl _ _ _ _ ((hd120_1.now' m106 rfl).any) (hwl _ (List.mem_of_getElem? hes))) ?_)
  rintro e w125 ⟨sb,rfl,hsb,hb125⟩
  have m126 := m106.later hb125
  refine ⟨_,rfl,?_⟩; intro Y U
  refine gz hK6 U (.not rfl .nil) fun Y U =>?_
  refine bc U 44 ?_ ?_
  ·
   intro hb129 U; try simp only [QQ,Qax] at hb129
   refine wct U ?_
   replace U := U.oz [1,3]
   refine regS U (.assign rfl .nil) fun Y U =>?_
   refine rt1 U ?_
   exact ⟨false,rfl,(fun h => by cases h),m126.below⟩
  intro hb129 U; try simp only [QQ,Qax] at hb129
  refine wcf U ?_
  refine zss (hK5 _ _ ?_)
  replace U := U.oz [1,3]
  refine wp_region_lit ?_
  refine goCh U (.move rfl<|.inc (k + 1)<|.assign rfl .nil) fun Y U =>?_
  refine wpList_nil ?_
  show ∃ n',n' < _ ∧ _
  exact ⟨x.ws.length - (k + 1),by omega,k + 1,_,by omega,rfl,small_take hall hes (hsb (by simp_all)).1,U.only [1,3],m126.only [9]⟩
 intro hb112 U; try simp only [QQ,Qax] at hb112
 have hkl9 : k = x.ws.length := by have := hb112; simp at this; omega
 refine wcf U ?_
 refine wp_exit ?_
 refine hK3 _ _ ?_
 refine regS U (.assign rfl .nil) fun Y U =>?_
 refine rt1 U ?_
 exact ⟨true,rfl,(fun _ => ⟨hB.1,hB.2.1,hB.2.2,by rw [hkl9,List.take_length] at hall; exact hall⟩),m106.below⟩
theorem rsall_t (L : List VolV) (p q : Option Addr) (c d : Nat) (w0 : World) (h0 : Rd (fun _ => True) w0 (.slice p (L.map volD).length c) (.l 11 (L.map volD))) (h1 : Rd (fun _ => True) w0 (.slice q (L.map volD).length d) (.l 11 (L.map volD))) (hB : ∀ y ∈ L,VolB y) (hl : L.length ≤ 1000000) :
   Calls Tryz.prog 16 #[.slice p (L.map volD).length c,.slice q (L.map volD).length d] w0 fun e w' => e = .returned (.bool true) ∧ Below w0.heap.size w0 w' := by
 refine ent2 Tryz.func16 rfl Tryz.ntmps16 fun Y U =>?_
 have m0 := MemOk.start (fun _ => False) w0
 have hll : (L.map volD).length = L.length := List.length_map ..
 refine regS U (.assign rfl .nil) fun Y U =>?_
 refine wsk fun K0 hK0 =>?_
 refine regS U (.move rfl<|.len rfl U30<|.move rfl<|.len rfl U30<|.neq rfl rfl .nil) fun Y U =>?_
 refine bc U 10 ?_ ?_
 · intro hb _; exact absurd hb (by simp)
 clear U; intro _ U
 refine wcf U ?_
 refine zss (hK0 _ _ ?_)
 refine wsk fun K1 hK1 =>?_
 refine regS U (.assign rfl .nil) fun Y U =>?_
 refine wp_block ?_
 refine wp_loop_ghost (fun g a w => ∃ k : Nat,k ≤ L.length ∧ g = L.length - k ∧ Has 27 [(0,.slice p (L.map volD).length c),(1,.slice q (L.map volD).length d),(5,.int .i64 k)] a ∧ MemOk (cn w0) w0 [] w) (L.length) ?_ ?_
 · exact ⟨0,Nat.zero_le _,rfl,U.only [0,1,5],m0.only []⟩
 clear U m0
 rintro g Y w9 ⟨k,hkl,hg,U,m9⟩
 refine wsk fun K2 hK2 =>?_
 refine regS U (.move rfl<|.move rfl<|.len rfl U30<|.lss rfl rfl .nil) fun Y U =>?_
 refine bc U 14 ?_ ?_
 ·
  intro hb14 U; try simp only [QQ,Qax] at hb14
  have hk : k < L.length := by have := hb14; simp at this; omega
  obtain ⟨y,hes⟩ : ∃ e,L[k]? = some e := ⟨_,List.getElem?_eq_getElem hk⟩
  refine wct U ?_
  refine zss (hK2 _ _ ?_)
  refine wsk fun K3 hK3 =>?_
  refine wp_block ?_
  refine wsk fun K4 hK4 =>?_
  obtain ⟨gx16,ox16,vx16,hp16,hl16,hR16,hrg16⟩ := h0.extA (k) (r := [.v (.int .i64 y.vo),.v (.int .i64 y.bl),.v (.int .i64 y.sz),.v (.int .i64 y.pe),.ns .i64 y.place,.v (.int .i64 y.to),.v (.int .i64 y.ne),.v (.bool y.hi),.v (.int .i64 y.fl),.ns .i64 y.pins,.l 2 (y.ws.map wrD)]) (volD_get hes)
  revert U
  cases hp16
  rcases hR16 with _ | ⟨hd16_0,_ | ⟨hd16_1,_ | ⟨hd16_2,_ | ⟨hd16_3,_ | ⟨hd16_4,_ | ⟨hd16_5,_ | ⟨hd16_6,_ | ⟨hd16_7,_ | ⟨hd16_8,_ | ⟨hd16_9,_ | ⟨hd16_10,_ | _⟩⟩⟩⟩⟩⟩⟩⟩⟩⟩⟩
  obtain rfl := hd16_0.v_out
  clear hd16_0
  obtain rfl := hd16_1.v_out
  clear hd16_1
  obtain rfl := hd16_2.v_out
  clear hd16_2
  obtain rfl := hd16_3.v_out
  clear hd16_3
  obtain ⟨p17,c17,hv17,hw17⟩ := hd16_4.ns_shape; subst hv17
  obtain rfl := hd16_5.v_out
  clear hd16_5
  obtain rfl := hd16_6.v_out
  clear hd16_6
  obtain rfl := hd16_7.v_out
  clear hd16_7
  obtain rfl := hd16_8.v_out
  clear hd16_8
  obtain ⟨p18,c18,hv18,hw18⟩ := hd16_9.ns_shape; subst hv18
  obtain ⟨p19,c19,hv19,hw19⟩ := hd16_10.l_shape; subst hv19
  intro U
  obtain ⟨gx21,ox21,vx21,hp21,hl21,hR21,hrg21⟩ := h1.extA (k) (r := [.v (.int .i64 y.vo),.v (.int .i64 y.bl),.v (.int .i64 y.sz),.v (.int .i64 y.pe),.ns .i64 y.place,.v (.int .i64 y.to),.v (.int .i64 y.ne),.v (.bool y.hi),.v (.int .i64 y.fl),.ns .i64 y.pins,.l 2 (y.ws.map wrD)]) (volD_get hes)
  revert U
  cases hp21
  rcases hR21 with _ | ⟨hd21_0,_ | ⟨hd21_1,_ | ⟨hd21_2,_ | ⟨hd21_3,_ | ⟨hd21_4,_ | ⟨hd21_5,_ | ⟨hd21_6,_ | ⟨hd21_7,_ | ⟨hd21_8,_ | ⟨hd21_9,_ | ⟨hd21_10,_ | _⟩⟩⟩⟩⟩⟩⟩⟩⟩⟩⟩
  obtain rfl := hd21_0.v_out
  clear hd21_0
  obtain rfl := hd21_1.v_out
  clear hd21_1
  obtain rfl := hd21_2.v_out
  clear hd21_2
  obtain rfl := hd21_3.v_out
  clear hd21_3
  obtain ⟨p22,c22,hv22,hw22⟩ := hd21_4.ns_shape; subst hv22
  obtain rfl := hd21_5.v_out
  clear hd21_5
  obtain rfl := hd21_6.v_out
  clear hd21_6
  obtain rfl := hd21_7.v_out
  clear hd21_7
  obtain rfl := hd21_8.v_out
  clear hd21_8
  obtain ⟨p23,c23,hv23,hw23⟩ := hd21_9.ns_shape; subst hv23
  obtain ⟨p24,c24,hv24,hw24⟩ := hd21_10.l_shape; subst hv24
  intro U
  have m25 : MemOk _ _ [] _ := m9.only []; clear m9
  refine region_p 8 (B := []) (m25.to trivial) m25 (by kernel_rfl) (fun w26 hP26 m26 =>?_); clear m25
  refine goR hP26 [0,1,2,3,4,5,6,7] [3,7] 8 0 255 U (m26.to trivial) (.move rfl<|.move rfl<|.p (fun _ _ h_ => y_idx h_ rfl rfl U30 fct13 (k) rfl (by simpa using hk))<|.loadAt (fun _ h_ => (hrg16 h_ rfl)) rfl U51 rfl fct13<|.move rfl<|.move rfl<|.p (fun _ _ h_ => y_idx h_ rfl rfl U30 fct13 (k) rfl (by simpa using hk))<|.loadAt (fun _ h_ => (hrg21 h_ rfl)) rfl U51 rfl fct13 .nil) fun Y U =>?_
  refine se 8 ?_
  refine ecb U Tryz.func20 rfl m26 (boolT (decide_eq_true ⟨⟨rfl,rfl,rfl,rfl,rfl,rfl⟩,rfl,rfl,rfl,rfl,rfl⟩) (rsme y y _ _ _ _ _ _ _ _ _ _ _ _ _ _ _ (hB y (List.mem_of_getElem? hes)) (hB y (List.mem_of_getElem? hes)) ((hd16_4.now' m26 rfl).any) ((hd16_9.now' m26 rfl).any) ((hd16_10.now' m26 rfl).any) ((hd21_4.now' m26 rfl).any) ((hd21_9.now' m26 rfl).any) ((hd21_10.now' m26 rfl).any))) fun Y w35 U m36 =>?_
  refine goB hP26 [9] 1 511 1023 U (.not rfl .nil) fun Y U =>?_
  refine wpAnyE_done (by kernel_rfl) ?_ _
  refine hK4 _ _ ?_
  refine wcf U ?_
  refine zss (hK3 _ _ ?_)
  replace U := U.oz [0,1,5]
  refine wp_region_lit ?_
  refine goCh U (.move rfl<|.inc (k + 1)<|.assign rfl .nil) fun Y U =>?_
  refine wpList_nil ?_
  show ∃ n',n' < _ ∧ _
  exact ⟨L.length - (k + 1),by omega,k + 1,by omega,rfl,U.only [0,1,5],m36.only []⟩
 intro hb14 U; try simp only [QQ,Qax] at hb14
 refine wcf U ?_
 refine wp_exit ?_
 refine hK1 _ _ ?_
 refine regS U (.assign rfl .nil) fun Y U =>?_
 refine rt1 U ?_
 exact ⟨rfl,m9.below⟩
end
section
theorem fl38ycm : flatS Tryz.prog 38 [.int .i64 0,.int .i64 0,.int .i64 0,.int .i64 0,.int .i64 0,.slice none 0 0,.int .i64 0,.int .i64 0,.int .i64 0,.slice none 0 0] = true := by kernel_rfl
def ItG (it : List (Int × List Int)) : Prop := it.length ≤ 8 ∧ (∀ e ∈ it,(0 ≤ e.1 ∧ e.1 ≤ 255) ∧ e.2.length ≤ 32) ∧ ItsB it
theorem itG_nil : ItG [] := ⟨by decide,(fun _ h => by cases h),(fun _ h => by cases h)⟩
theorem itG_of {bl : Int} {z : Nat} {it : List (Int × List Int)} (h : ItPre (max bl 1) z it it.length) (h8 : it.length ≤ 8) (hb : ItsB it) (hbl : bl ≤ 256) (hz : z ≤ 32) : ItG it := ⟨h8,fun e he => by
 obtain ⟨j,hj,rfl⟩ := List.getElem_of_mem he
 have h9 := h j hj
 rw [List.getD,List.getElem?_eq_getElem hj] at h9
 simp only [Option.getD_some] at h9
 omega,hb⟩
theorem cmdR_of {kd vo at0 ix : Int} {it : List (Int × List Int)} (hvo : 0 ≤ vo ∧ vo ≤ 7) (hkd : 2 ≤ kd ∧ kd ≤ 8) (hat : 0 ≤ at0 ∧ at0 ≤ 1099511627776) (hix : 0 ≤ ix ∧ ix ≤ 1099511627776) (h : ItG it) : CmdR ⟨kd,vo,0,0,0,[],0,at0,ix,it⟩ :=
 ⟨by dsimp only; omega,hvo,by dsimp only; omega,by simp,(fun z hz => by cases hz),h.1,h.2.1⟩
theorem tmod255 {xa : Int} {n : Nat} (h : 0 ≤ xa ∧ xa ≤ 255) : 0 ≤ xa.tmod ((n : Int) + 2) ∧ xa.tmod ((n : Int) + 2) ≤ 255 := by
 rw [Int.tmod_eq_emod_of_nonneg h.1]
 have h1 := Int.emod_nonneg xa (show ((n : Int) + 2) ≠ 0 by omega)
 have h2 : xa % ((n : Int) + 2) ≤ xa := by
   rcases Int.lt_or_le xa ((n : Int) + 2) with h3 | h3
   · rw [Int.emod_eq_of_lt h.1 h3]; exact Int.le_refl _
   have := Int.emod_lt_of_pos xa (show (0 : Int) < (n : Int) + 2 by omega); omega
 omega
set_option maxRecDepth 100000
set_option maxHeartbeats 4000000
theorem scmd_r (vo bl : Int) (z : Nat) (pe to ne fl : Int) (hi : Bool) (pp pn pw : Option Addr) (np cp nn9 cn9 nw cw : Nat) (wh xa xb xc : Int) (w0 : World) (hvo : 0 ≤ vo ∧ vo ≤ 7) (hbl : bl ≤ 256) (hz : z ≤ 32) (hnw : nw ≤ 1000000) (hne : 0 ≤ ne ∧ ne ≤ 1099511627776) (hw9 : 0 ≤ wh ∧ wh ≤ 255) (ha9 : 0 ≤ xa ∧ xa ≤ 255) (hb9 : 0 ≤ xb ∧ xb ≤ 255) (hc9 : 0 ≤ xc ∧ xc ≤ 255) :
   Calls Tryz.prog 41 #[.agg #[.int .i64 vo,.int .i64 bl,.int .i64 (z : Int),.int .i64 pe,.slice pp np cp,.int .i64 to,.int .i64 ne,.bool hi,.int .i64 fl,.slice pn nn9 cn9,.slice pw nw cw],.bool true,.int .u8 wh,.int .u8 xa,.int .u8 xb,.int .u8 xc] w0 fun e w' => ∃ (kd at0 ix : Int) (it : List (Int × List Int)) (pi : Option Addr) (ci : Nat),e = .returned (.agg #[.int .i64 kd,.int .i64 vo,.int .i64 0,.int .i64 0,.int .i64 0,.slice none 0 0,.int .i64 0,.int .i64 at0,.int .i64 ix,.slice pi it.length ci]) ∧ (2 ≤ kd ∧ kd ≤ 8) ∧ CmdR ⟨kd,vo,0,0,0,[],0,at0,ix,it⟩ ∧ ItsB it ∧ Rd (New w0) w' (.slice pi it.length ci) (.l 2 (it.map itD)) ∧ Below w0.heap.size w0 w' := by
 refine ent6 Tryz.func41 rfl Tryz.ntmps41 fun Y U =>?_
 have m0 := MemOk.start (fun _ => False) w0
 have htm := tmod255 (n := nw) ha9
 refine zsr fun K0 hK0 =>?_
 refine plz (e_box U m0 20 (cs := [_,_,_,_,_,_,_,_,_,_,_]) rfl rfl rfl fun g1 Y w2 U m2 _ _ =>?_)
 refine plz (e_alloc U m2 21 fct24 rfl fun g3 Y w4 U m4 _ _ =>?_)
 refine znl (hK0 _ _ ?_)
 refine wsk fun K1 hK1 =>?_
 refine regS U (.move rfl<|.not rfl .nil) fun Y U =>?_
 refine wcf U ?_
 refine zss (hK1 _ _ ?_)
 refine zsr fun K2 hK2 =>?_
 refine goCh U (.fa 0 rfl U51<|.lb m4 20 U3 rfl rfl rfl<|.build rfl fct24 fl38ycm rfl (by dsimp only [setL,List.set] <;> rfl) .nil) fun Y U =>?_
 refine plz (e_alloc U m4 22 fct24 rfl fun g13 Y w14 U m14 _ _ =>?_)
 refine plz (stw U m14 22 fct19 fun w15 m15 _ =>?_)
 refine znl (hK2 _ _ ?_)
 refine wsk fun K3 hK3 =>?_
 have hC3 : ∀ (a : Act) (w : World),(∃ (kd at0 ix : Int) (it : List (Int × List Int)) (pi : Option Addr) (ci : Nat) (B6 B12 B14 : Nat),(2 ≤ kd ∧ kd ≤ 8) ∧ (0 ≤ at0 ∧ at0 ≤ 1099511627776) ∧ (0 ≤ ix ∧ ix ≤ 1099511627776) ∧ ItG it ∧ Has 131 [(2,.int .u8 wh),(3,.int .u8 xa),(4,.int .u8 xb),(5,.int .u8 xc),(6,.pointer (some ⟨B6,0,none⟩)),(12,.pointer (some ⟨B12,0,none⟩)),(14,.pointer (some ⟨B14,0,none⟩))] a ∧ MemOk (cn w0) w0 [(6,.box B6 51 [.int .i64 vo,.int .i64 bl,.int .i64 (z : Int),.int .i64 pe,.slice pp np cp,.int .i64 to,.int .i64 ne,.bool hi,.int .i64 fl,.slice pn nn9 cn9,.slice pw nw cw]),(12,.box B12 38 [.int .i64 0,.int .i64 0,.int .i64 0,.int .i64 0,.int .i64 0,.slice none 0 0,.int .i64 0,.int .i64 0,.int .i64 0,.slice none 0 0]),(14,.box B14 38 [.int .i64 kd,.int .i64 vo,.int .i64 0,.int .i64 0,.int .i64 0,.slice none 0 0,.int .i64 0,.int .i64 at0,.int .i64 ix,.slice pi it.length ci]),(9,.dat (.slice pi it.length ci) (.l 2 (it.map itD)))] w) → K3 a w := by
   clear U m15
   rintro Y w16 ⟨kd,at0,ix,it,pi,ci,B6,B12,B14,hkd,hat9,hix9,hIG,U,m16⟩
   refine hK3 _ _ ?_
   refine wsk fun K4 hK4 =>?_
   refine zsr fun K5 hK5 =>?_
   refine goCh U (.fa 7 rfl U51<|.lb m16 6 U4 rfl rfl rfl<|.move rfl .nil) fun Y U =>?_
   refine bc U 111 ?_ ?_
   ·
    intro hb23 U; try simp only [QQ,Qax] at hb23
    refine gz hK5 U (.moveZ rfl<|.remZ rfl rfl (by decide) rfl<|.lssZ rfl rfl<|.pickT rfl rfl<|.nil) fun Y U =>?_
    refine bc U 115 ?_ ?_
    ·
     intro hb28 U; try simp only [QQ,Qax] at hb28
     refine wct U ?_
     replace U := U.oz [3,4,5,6,12,14]
     have m30 := m16.oz [6,9,12,14]
     refine region_p 15 (B := [(6,_)]) (m30.to ⟨il,trivial⟩) m30 (by kernel_rfl) (fun w31 hP31 m31 =>?_); clear m30
     refine goR hP31 [0,1,2,3,4,5,6,7,8,9,10] [1,3,5,7] 11 0 2047 U (m31.to ⟨il,trivial⟩) (.fa 0 rfl U51<|.lb hh 6 U3 rfl rfl rfl<|.fa 6 rfl U51<|.lb hh 6 U3 rfl rfl rfl<|.fa 1 rfl U51<|.lb hh 6 U3 rfl rfl rfl<|.fa 2 rfl U51<|.lb hh 6 U3 rfl rfl rfl<|.move rfl<|.move rfl<|.move rfl .nil) fun Y U =>?_
     refine so 11 ?_
     refine e_litN U m31 100 (k := .u8) rfl rfl U22 fct0 rfl rfl rfl rfl fun g43 Y w44 U m44 =>?_
     refine ⟨m44.to ⟨il,trivial⟩,?_⟩
     have m45 := m44.freezeN 100 rfl
     refine so 12 ?_
     refine ecl U Tryz.func90 rfl (sitem_any bl z [xa,xb,xc] _ _ _ ((m45.rd (i := 100) rfl).any) (by simp) (b3 ha9 hb9 hc9) (by omega)) ?_
     rintro e w46 ⟨it,p46,c46,rfl,hit8,hpre9,hitb,hit1,hd46,hb46⟩
     have m47 := m45.callF 101 rfl hb46 hd46
     have hIG : ItG it := itG_of hpre9 hit8 hitb (by omega) (by omega)
     refine ⟨_,rfl,?_⟩; intro Y U
     refine ⟨m47.to ⟨il,trivial⟩,?_⟩
     refine goA hP31 [13] 1 8191 16383 U (m47.to ⟨il,trivial⟩) (.build rfl fct24 fl38ycm rfl (by dsimp only [setL,List.set] <;> rfl) .nil) fun Y U =>?_
     refine so 14 ?_
     refine stw U m47 14 fct19 fun w50 m50 _ =>?_
     refine ⟨m50.to ⟨il,trivial⟩,?_⟩
     refine wpAnyE_done (by kernel_rfl) ?_ _
     refine hK4 _ _ ?_
     replace U := U.oz [12,14]
     refine zsr fun K6 hK6 =>?_
     refine goCh U (.loadBR m50 (i := 14) rfl rfl U38 rfl fct19 (by simp) (by dsimp only [List.drop,List.take] <;> rfl) .nil) fun Y U =>?_
     refine plz (stw U m50 12 fct19 fun w54 m54 _ =>?_)
     refine znl (hK6 _ _ ?_)
     refine rtd (retC (fn := Tryz.f41) U m54 (i := 12) rfl rfl rfl U38 rfl fct19 ?_)
     exact ⟨_,_,_,_,_,_,rfl,(by first | exact hkd | decide),cmdR_of hvo (by first | exact hkd | decide) (by first | exact hat9 | decide) (by first | exact hix9 | omega) hIG,hIG.2.2,m54.outF (i := 101) rfl,m54.below⟩
    intro hb28 U; try simp only [QQ,Qax] at hb28
    refine wcf U ?_
    refine zss (hK4 _ _ ?_)
    replace U := U.oz [12,14]
    refine zsr fun K7 hK7 =>?_
    refine goCh U (.loadBR m16 (i := 14) rfl rfl U38 rfl fct19 (by simp) (by dsimp only [List.drop,List.take] <;> rfl) .nil) fun Y U =>?_
    refine plz (stw U m16 12 fct19 fun w58 m58 _ =>?_)
    refine znl (hK7 _ _ ?_)
    refine rtd (retC (fn := Tryz.f41) U m58 (i := 12) rfl rfl rfl U38 rfl fct19 ?_)
    exact ⟨_,_,_,_,_,_,rfl,(by first | exact hkd | decide),cmdR_of hvo (by first | exact hkd | decide) (by first | exact hat9 | decide) (by first | exact hix9 | omega) hIG,hIG.2.2,m58.outF (i := 9) rfl,m58.below⟩
   intro hb23 U; try simp only [QQ,Qax] at hb23
   refine gz hK5 U (.sk<|.sk<|.sk<|.pickF rfl rfl<|.nil) fun Y U =>?_
   refine wcf U ?_
   refine zss (hK4 _ _ ?_)
   replace U := U.oz [12,14]
   refine zsr fun K8 hK8 =>?_
   refine goCh U (.loadBR m16 (i := 14) rfl rfl U38 rfl fct19 (by simp) (by dsimp only [List.drop,List.take] <;> rfl) .nil) fun Y U =>?_
   refine plz (stw U m16 12 fct19 fun w66 m66 _ =>?_)
   refine znl (hK8 _ _ ?_)
   refine rtd (retC (fn := Tryz.f41) U m66 (i := 12) rfl rfl rfl U38 rfl fct19 ?_)
   exact ⟨_,_,_,_,_,_,rfl,(by first | exact hkd | decide),cmdR_of hvo (by first | exact hkd | decide) (by first | exact hat9 | decide) (by first | exact hix9 | omega) hIG,hIG.2.2,m66.outF (i := 9) rfl,m66.below⟩
 replace U := U.oz [2,3,4,5,6,12,14]
 refine regS U (.move rfl<|.rem rfl rfl (by decide) rfl .nil) fun Y U =>?_
 refine wp_block ?_
 refine wsk fun K9 hK9 =>?_
 refine regS U (.eql rfl rfl<|.assign rfl .nil) fun Y U =>?_
 refine bc U 39 ?_ ?_
 ·
  intro hb72 U; try simp only [QQ,Qax] at hb72
  refine wct U ?_
  refine zss (hK9 _ _ ?_)
  refine wct U ?_
  refine wp_region_lit ?_
  refine goCh U (.fa 1 rfl U51<|.lb m15 20 U3 rfl rfl rfl<|.fa 2 rfl U51<|.lb m15 20 U3 rfl rfl rfl<|.move rfl<|.move rfl<|.move rfl .nil) fun Y U =>?_
  refine plz (e_litN U m15 23 (k := .u8) rfl rfl U22 fct0 rfl rfl rfl rfl fun g80 Y w81 U m81 =>?_)
  have m82 := m81.freezeN 23 rfl
  refine plz (ecl U Tryz.func90 rfl (sitem_any bl z [xa,xb,xc] _ _ _ ((m82.rd (i := 23) rfl).any) (by simp) (b3 ha9 hb9 hc9) (by omega)) ?_)
  rintro e w83 ⟨it,p83,c83,rfl,hit8,hpre9,hitb,hit1,hd83,hb83⟩
  have m84 := m82.callF 24 rfl hb83 hd83
  have hIG : ItG it := itG_of hpre9 hit8 hitb (by omega) (by omega)
  refine ⟨_,rfl,?_⟩; intro Y U
  refine goCh U (.fieldAddr (off := 0) rfl U38 rfl (s := 0) (by kernel_rfl) rfl .nil) fun Y U =>?_
  refine plz (st1 U m84 22 fct15 fun w87 m87 _ =>?_)
  refine goCh U (.fieldAddr (off := 9) rfl U38 rfl (s := 0) (by kernel_rfl) rfl .nil) fun Y U =>?_
  refine plz (st1 U m87 22 fct6 fun w89 m89 _ =>?_)
  refine wpList_nil ?_
  show K3 _ _
  exact hC3 _ _ ⟨_,_,_,it,_,_,_,_,_,by decide,(by omega),(by omega),hIG,U.only [2,3,4,5,6,12,14],m89.ren [(6,20),(12,21),(14,22),(9,24)] (by decide)⟩
 intro hb72 U; try simp only [QQ,Qax] at hb72
 refine wcf U ?_
 refine regS U (.eql rfl rfl<|.assign rfl .nil) fun Y U =>?_
 refine bc U 39 ?_ ?_
 ·
  intro hb92 U; try simp only [QQ,Qax] at hb92
  refine wct U ?_
  refine zss (hK9 _ _ ?_)
  refine wct U ?_
  refine wp_region_lit ?_
  refine goCh U (.fa 1 rfl U51<|.lb m15 20 U3 rfl rfl rfl<|.fa 2 rfl U51<|.lb m15 20 U3 rfl rfl rfl<|.move rfl<|.move rfl<|.move rfl .nil) fun Y U =>?_
  refine plz (e_litN U m15 23 (k := .u8) rfl rfl U22 fct0 rfl rfl rfl rfl fun g100 Y w101 U m101 =>?_)
  have m102 := m101.freezeN 23 rfl
  refine plz (ecl U Tryz.func90 rfl (sitem_any bl z [xa,xb,xc] _ _ _ ((m102.rd (i := 23) rfl).any) (by simp) (b3 ha9 hb9 hc9) (by omega)) ?_)
  rintro e w103 ⟨it,p103,c103,rfl,hit8,hpre9,hitb,hit1,hd103,hb103⟩
  have m104 := m102.callF 24 rfl hb103 hd103
  have hIG : ItG it := itG_of hpre9 hit8 hitb (by omega) (by omega)
  refine ⟨_,rfl,?_⟩; intro Y U
  refine goCh U (.fieldAddr (off := 0) rfl U38 rfl (s := 0) (by kernel_rfl) rfl .nil) fun Y U =>?_
  refine plz (st1 U m104 22 fct15 fun w107 m107 _ =>?_)
  refine goCh U (.fieldAddr (off := 9) rfl U38 rfl (s := 0) (by kernel_rfl) rfl .nil) fun Y U =>?_
  refine plz (st1 U m107 22 fct6 fun w109 m109 _ =>?_)
  refine wpList_nil ?_
  show K3 _ _
  exact hC3 _ _ ⟨_,_,_,it,_,_,_,_,_,by decide,(by omega),(by omega),hIG,U.only [2,3,4,5,6,12,14],m109.ren [(6,20),(12,21),(14,22),(9,24)] (by decide)⟩
 intro hb92 U; try simp only [QQ,Qax] at hb92
 refine wcf U ?_
 refine regS U (.eql rfl rfl<|.assign rfl .nil) fun Y U =>?_
 refine bc U 39 ?_ ?_
 ·
  intro hb112 U; try simp only [QQ,Qax] at hb112
  refine wct U ?_
  refine zss (hK9 _ _ ?_)
  refine wct U ?_
  refine wp_region_lit ?_
  refine goCh U (.fa 1 rfl U51<|.lb m15 20 U3 rfl rfl rfl<|.fa 2 rfl U51<|.lb m15 20 U3 rfl rfl rfl<|.move rfl<|.move rfl<|.move rfl .nil) fun Y U =>?_
  refine plz (e_litN U m15 23 (k := .u8) rfl rfl U22 fct0 rfl rfl rfl rfl fun g120 Y w121 U m121 =>?_)
  have m122 := m121.freezeN 23 rfl
  refine plz (ecl U Tryz.func90 rfl (sitem_any bl z [xa,xb,xc] _ _ _ ((m122.rd (i := 23) rfl).any) (by simp) (b3 ha9 hb9 hc9) (by omega)) ?_)
  rintro e w123 ⟨it,p123,c123,rfl,hit8,hpre9,hitb,hit1,hd123,hb123⟩
  have m124 := m122.callF 24 rfl hb123 hd123
  have hIG : ItG it := itG_of hpre9 hit8 hitb (by omega) (by omega)
  refine ⟨_,rfl,?_⟩; intro Y U
  refine goCh U (.fieldAddr (off := 0) rfl U38 rfl (s := 0) (by kernel_rfl) rfl .nil) fun Y U =>?_
  refine plz (st1 U m124 22 fct15 fun w127 m127 _ =>?_)
  refine goCh U (.fieldAddr (off := 9) rfl U38 rfl (s := 0) (by kernel_rfl) rfl .nil) fun Y U =>?_
  refine plz (st1 U m127 22 fct6 fun w129 m129 _ =>?_)
  refine wpList_nil ?_
  show K3 _ _
  exact hC3 _ _ ⟨_,_,_,it,_,_,_,_,_,by decide,(by omega),(by omega),hIG,U.only [2,3,4,5,6,12,14],m129.ren [(6,20),(12,21),(14,22),(9,24)] (by decide)⟩
 intro hb112 U; try simp only [QQ,Qax] at hb112
 refine wcf U ?_
 refine wp_region_lit ?_
 refine gz hK9 U (.eql rfl rfl<|.assign rfl<|.nil) fun Y U =>?_
 refine bc U 39 ?_ ?_
 ·
  intro hb132 U; try simp only [QQ,Qax] at hb132
  refine wct U ?_
  replace U := U.oz [2,3,4,5,6,12,14,37]
  refine wp_region_lit ?_
  refine goCh U (.fa 1 rfl U51<|.lb m15 20 U3 rfl rfl rfl<|.fa 2 rfl U51<|.lb m15 20 U3 rfl rfl rfl<|.move rfl<|.move rfl<|.move rfl .nil) fun Y U =>?_
  refine plz (e_litN U m15 23 (k := .u8) rfl rfl U22 fct0 rfl rfl rfl rfl fun g141 Y w142 U m142 =>?_)
  have m143 := m142.freezeN 23 rfl
  refine plz (ecl U Tryz.func90 rfl (sitem_any bl z [xa,xb,xc] _ _ _ ((m143.rd (i := 23) rfl).any) (by simp) (b3 ha9 hb9 hc9) (by omega)) ?_)
  rintro e w144 ⟨it,p144,c144,rfl,hit8,hpre9,hitb,hit1,hd144,hb144⟩
  have m145 := m143.callF 24 rfl hb144 hd144
  have hIG : ItG it := itG_of hpre9 hit8 hitb (by omega) (by omega)
  refine ⟨_,rfl,?_⟩; intro Y U
  refine goCh U (.fieldAddr (off := 0) rfl U38 rfl (s := 0) (by kernel_rfl) rfl .nil) fun Y U =>?_
  refine plz (st1 U m145 22 fct15 fun w148 m148 _ =>?_)
  refine goCh U (.fieldAddr (off := 9) rfl U38 rfl (s := 0) (by kernel_rfl) rfl .nil) fun Y U =>?_
  refine plz (st1 U m148 22 fct6 fun w150 m150 _ =>?_)
  refine wpList_nil ?_
  show K3 _ _
  exact hC3 _ _ ⟨_,_,_,it,_,_,_,_,_,by decide,(by omega),(by omega),hIG,U.only [2,3,4,5,6,12,14],m150.ren [(6,20),(12,21),(14,22),(9,24)] (by decide)⟩
 intro hb132 U; try simp only [QQ,Qax] at hb132
 refine wcf U ?_
 replace U := U.oz [2,3,4,5,6,12,14,37]
 refine regS U (.eql rfl rfl<|.assign rfl .nil) fun Y U =>?_
 refine bc U 55 ?_ ?_
 ·
  intro hb154 U; try simp only [QQ,Qax] at hb154
  refine wct U ?_
  have m155 := m15.oz [20,21,22]
  refine region_p 10 (B := [(20,_)]) (m155.to ⟨il,trivial⟩) m155 (by kernel_rfl) (fun w156 hP156 m156 =>?_); clear m155
  refine goR hP156 [0,1,2,6] [2] 4 0 71 U (m156.to ⟨il,trivial⟩) (.move rfl<|.conv rfl U5 U2 (r := xa) (IntWalk.i64_in _ (by omega))<|.loadBR hh (i := 20) rfl rfl U51 rfl fct13 (by simp) (by dsimp only [List.drop,List.take] <;> rfl)<|.fa 0 rfl U38 .nil) fun Y U =>?_
  refine so 3 ?_
  refine ecb U Tryz.func39 rfl m156 (rlen_any _ _ _ _ _ _ _ _ _ _ _ _ _ _ _ _ _ _) fun Y w161 U m162 =>?_
  refine ⟨m162.to ⟨il,trivial⟩,?_⟩
  refine goA hP156 [4,5] 2 79 127 U (m162.to ⟨il,trivial⟩) (.add rfl rfl (r := (nw : Int) + 2) (IntWalk.i64_in _ (by omega))<|.rem rfl rfl (by omega) rfl .nil) fun Y U =>?_
  refine so 7 ?_
  refine st1 U m162 22 fct15 fun w166 m166 _ =>?_
  refine ⟨m166.to ⟨il,trivial⟩,?_⟩
  refine goA hP156 [8] 1 255 511 U (m166.to ⟨il,trivial⟩) (.fa 7 rfl U38 .nil) fun Y U =>?_
  refine so 9 ?_
  refine st1 U m166 22 fct18 fun w168 m168 _ =>?_
  refine ⟨m168.to ⟨il,trivial⟩,?_⟩
  refine wpAnyE_done (by kernel_rfl) ?_ _
  have m169 := m168.dat 23 rfl (Rd.l0 none 0 2)
  show K3 _ _
  exact hC3 _ _ ⟨_,_,_,[],_,_,_,_,_,by decide,(by omega),(by omega),itG_nil,U.only [2,3,4,5,6,12,14],m169.ren [(6,20),(12,21),(14,22),(9,23)] (by decide)⟩
 intro hb154 U; try simp only [QQ,Qax] at hb154
 refine wcf U ?_
 refine regS U (.eql rfl rfl<|.assign rfl .nil) fun Y U =>?_
 refine bc U 65 ?_ ?_
 ·
  intro hb172 U; try simp only [QQ,Qax] at hb172
  refine wct U ?_
  have m173 := m15.oz [20,21,22]
  refine region_p 10 (B := [(20,_)]) (m173.to ⟨il,trivial⟩) m173 (by kernel_rfl) (fun w174 hP174 m174 =>?_); clear m173
  refine goR hP174 [0,1,2,6] [2] 4 0 71 U (m174.to ⟨il,trivial⟩) (.move rfl<|.conv rfl U5 U2 (r := xa) (IntWalk.i64_in _ (by omega))<|.loadBR hh (i := 20) rfl rfl U51 rfl fct13 (by simp) (by dsimp only [List.drop,List.take] <;> rfl)<|.fa 0 rfl U38 .nil) fun Y U =>?_
  refine so 3 ?_
  refine ecb U Tryz.func39 rfl m174 (rlen_any _ _ _ _ _ _ _ _ _ _ _ _ _ _ _ _ _ _) fun Y w179 U m180 =>?_
  refine ⟨m180.to ⟨il,trivial⟩,?_⟩
  refine goA hP174 [4,5] 2 79 127 U (m180.to ⟨il,trivial⟩) (.add rfl rfl (r := (nw : Int) + 2) (IntWalk.i64_in _ (by omega))<|.rem rfl rfl (by omega) rfl .nil) fun Y U =>?_
  refine so 7 ?_
  refine st1 U m180 22 fct15 fun w184 m184 _ =>?_
  refine ⟨m184.to ⟨il,trivial⟩,?_⟩
  refine goA hP174 [8] 1 255 511 U (m184.to ⟨il,trivial⟩) (.fa 7 rfl U38 .nil) fun Y U =>?_
  refine so 9 ?_
  refine st1 U m184 22 fct18 fun w186 m186 _ =>?_
  refine ⟨m186.to ⟨il,trivial⟩,?_⟩
  refine wpAnyE_done (by kernel_rfl) ?_ _
  have m187 := m186.dat 23 rfl (Rd.l0 none 0 2)
  show K3 _ _
  exact hC3 _ _ ⟨_,_,_,[],_,_,_,_,_,by decide,(by omega),(by omega),itG_nil,U.only [2,3,4,5,6,12,14],m187.ren [(6,20),(12,21),(14,22),(9,23)] (by decide)⟩
 intro hb172 U; try simp only [QQ,Qax] at hb172
 refine wcf U ?_
 refine regS U (.eql rfl rfl<|.assign rfl .nil) fun Y U =>?_
 refine bc U 75 ?_ ?_
 ·
  intro hb190 U; try simp only [QQ,Qax] at hb190
  refine wct U ?_
  replace U := U.oz [2,3,4,5,6,12,14,37]
  have m192 := m15.oz [20,21,22]
  refine region_p 10 (B := [(20,_)]) (m192.to ⟨il,trivial⟩) m192 (by kernel_rfl) (fun w193 hP193 m193 =>?_); clear m192
  refine goR hP193 [0,1,2,6] [2] 4 0 71 U (m193.to ⟨il,trivial⟩) (.move rfl<|.conv rfl U5 U2 (r := xa) (IntWalk.i64_in _ (by omega))<|.loadBR hh (i := 20) rfl rfl U51 rfl fct13 (by simp) (by dsimp only [List.drop,List.take] <;> rfl)<|.fa 0 rfl U38 .nil) fun Y U =>?_
  refine so 3 ?_
  refine ecb U Tryz.func39 rfl m193 (rlen_any _ _ _ _ _ _ _ _ _ _ _ _ _ _ _ _ _ _) fun Y w198 U m199 =>?_
  refine ⟨m199.to ⟨il,trivial⟩,?_⟩
  refine goA hP193 [4,5] 2 79 127 U (m199.to ⟨il,trivial⟩) (.add rfl rfl (r := (nw : Int) + 2) (IntWalk.i64_in _ (by omega))<|.rem rfl rfl (by omega) rfl .nil) fun Y U =>?_
  refine so 7 ?_
  refine st1 U m199 22 fct15 fun w203 m203 _ =>?_
  refine ⟨m203.to ⟨il,trivial⟩,?_⟩
  refine goA hP193 [8] 1 255 511 U (m203.to ⟨il,trivial⟩) (.fa 7 rfl U38 .nil) fun Y U =>?_
  refine so 9 ?_
  refine st1 U m203 22 fct18 fun w205 m205 _ =>?_
  refine ⟨m205.to ⟨il,trivial⟩,?_⟩
  refine wpAnyE_done (by kernel_rfl) ?_ _
  have m206 := m205.dat 23 rfl (Rd.l0 none 0 2)
  show K3 _ _
  exact hC3 _ _ ⟨_,_,_,[],_,_,_,_,_,by decide,(by omega),(by omega),itG_nil,U.only [2,3,4,5,6,12,14],m206.ren [(6,20),(12,21),(14,22),(9,23)] (by decide)⟩
 intro hb190 U; try simp only [QQ,Qax] at hb190
 refine wcf U ?_
 replace U := U.oz [2,3,4,5,6,12,14,37]
 refine regS U (.eql rfl rfl<|.assign rfl .nil) fun Y U =>?_
 refine bc U 85 ?_ ?_
 ·
  intro hb210 U; try simp only [QQ,Qax] at hb210
  refine wct U ?_
  refine wp_region_lit ?_
  refine goCh U (.fieldAddr (off := 0) rfl U38 rfl (s := 0) (by kernel_rfl) rfl .nil) fun Y U =>?_
  refine plz (st1 U m15 22 fct15 fun w212 m212 _ =>?_)
  refine wpList_nil ?_
  have m213 := m212.dat 23 rfl (Rd.l0 none 0 2)
  show K3 _ _
  exact hC3 _ _ ⟨_,_,_,[],_,_,_,_,_,by decide,(by omega),(by omega),itG_nil,U.only [2,3,4,5,6,12,14],m213.ren [(6,20),(12,21),(14,22),(9,23)] (by decide)⟩
 intro hb210 U; try simp only [QQ,Qax] at hb210
 refine wcf U ?_
 refine regS U (.eql rfl rfl<|.assign rfl .nil) fun Y U =>?_
 refine bc U 88 ?_ ?_
 ·
  intro hb216 U; try simp only [QQ,Qax] at hb216
  refine wct U ?_
  have m217 := m15.oz [20,21,22]
  refine region_p 22 (B := [(20,_)]) (m217.to ⟨il,trivial⟩) m217 (by kernel_rfl) (fun w218 hP218 m218 =>?_); clear m217
  refine goR hP218 [0,1,2,3,4,5,6,7,8,9,10,11,12,13,16] [1,9,11] 15 0 81919 U (m218.to ⟨il,trivial⟩) (.fa 6 rfl U51<|.lb hh 20 U3 rfl rfl rfl<|.move rfl<|.rem rfl rfl (by decide) (Int.tmod_eq_emod_of_nonneg (by omega))<|.conv rfl U5 U3 (r := xc % 5) (IntWalk.i64_in _ (by omega))<|.quo rfl rfl (by decide) (r := xc % 5 / 4) (by rw [Int.tdiv_eq_ediv_of_nonneg (by omega)]; exact IntWalk.i64_in _ (by omega))<|.sub rfl rfl (r := ne - xc % 5 / 4) (IntWalk.i64_in _ (by omega))<|.p (fun _ _ h_ => y_max h_ rfl rfl rfl)<|.fa 1 rfl U51<|.lb hh 20 U3 rfl rfl rfl<|.fa 2 rfl U51<|.lb hh 20 U3 rfl rfl rfl<|.move rfl<|.move rfl<|.fa 0 rfl U38 .nil) fun Y U =>?_
  refine so 14 ?_
  refine e_litN U m218 23 (k := .u8) rfl rfl U22 fct0 rfl rfl rfl rfl fun g234 Y w235 U m235 =>?_
  refine ⟨m235.to ⟨il,trivial⟩,?_⟩
  have m236 := m235.freezeN 23 rfl
  refine so 15 ?_
  refine ecl U Tryz.func90 rfl (sitem_any bl z [xa,xb] _ _ _ ((m236.rd (i := 23) rfl).any) (by simp) (b2 ha9 hb9) (by omega)) ?_
  rintro e w237 ⟨it,p237,c237,rfl,hit8,hpre9,hitb,hit1,hd237,hb237⟩
  have m238 := m236.callF 24 rfl hb237 hd237
  have hIG : ItG it := itG_of hpre9 hit8 hitb (by omega) (by omega)
  refine ⟨_,rfl,?_⟩; intro Y U
  refine ⟨m238.to ⟨il,trivial⟩,?_⟩
  refine so 17 ?_
  refine st1 U m238 22 fct15 fun w240 m240 _ =>?_
  refine ⟨m240.to ⟨il,trivial⟩,?_⟩
  refine goA hP218 [18] 1 262143 524287 U (m240.to ⟨il,trivial⟩) (.fa 8 rfl U38 .nil) fun Y U =>?_
  refine so 19 ?_
  refine st1 U m240 22 fct15 fun w242 m242 _ =>?_
  refine ⟨m242.to ⟨il,trivial⟩,?_⟩
  refine goA hP218 [20] 1 1048575 2097151 U (m242.to ⟨il,trivial⟩) (.fa 9 rfl U38 .nil) fun Y U =>?_
  refine so 21 ?_
  refine st1 U m242 22 fct6 fun w244 m244 _ =>?_
  refine ⟨m244.to ⟨il,trivial⟩,?_⟩
  refine wpAnyE_done (by kernel_rfl) ?_ _
  show K3 _ _
  exact hC3 _ _ ⟨_,_,_,it,_,_,_,_,_,by decide,(by omega),(by omega),hIG,U.only [2,3,4,5,6,12,14],m244.ren [(6,20),(12,21),(14,22),(9,24)] (by decide)⟩
 intro hb216 U; try simp only [QQ,Qax] at hb216
 refine wcf U ?_
 refine wp_region_lit ?_
 refine goCh U (.fieldAddr (off := 0) rfl U38 rfl (s := 0) (by kernel_rfl) rfl .nil) fun Y U =>?_
 refine plz (st1 U m15 22 fct15 fun w246 m246 _ =>?_)
 refine wpList_nil ?_
 have m247 := m246.dat 23 rfl (Rd.l0 none 0 2)
 show K3 _ _
 exact hC3 _ _ ⟨_,_,_,[],_,_,_,_,_,by decide,(by omega),(by omega),itG_nil,U.only [2,3,4,5,6,12,14],m247.ren [(6,20),(12,21),(14,22),(9,23)] (by decide)⟩
end
end Go.Proofs.YtkehgingagggaaaGreat.K
