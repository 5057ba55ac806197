/- General laws of walks. -/
import Derived.Test.YtkehgingagggaaaGreatG26
import Derived.Test.YtkehgingagggaaaGreatG27
import Derived.Test.YtkehgingagggaaaGreatG9
import Derived.OpenShut
namespace Go.Proofs.YtkehgingagggaaaGreat.K
open Go.ChangeShapes Go.WideShapes Go.ChangeAt Go.RowKit
set_option linter.unusedVariables false
set_option linter.unusedSimpArgs false
section
theorem fl32lrp : flatS Tryz.prog 32 [.slice none 0 0] = true := by kernel_rfl
def pD (x : VolV × VolV) : List D := volD x.1 ++ volD x.2
theorem pD_get {l : List (VolV × VolV)} {k : Nat} {x : VolV × VolV} (h : l[k]? = some x) : (l.map pD)[k]? = some [.v (.int .i64 x.1.vo),.v (.int .i64 x.1.bl),.v (.int .i64 x.1.sz),.v (.int .i64 x.1.pe),.ns .i64 x.1.place,.v (.int .i64 x.1.to),.v (.int .i64 x.1.ne),.v (.bool x.1.hi),.v (.int .i64 x.1.fl),.ns .i64 x.1.pins,.l 2 (x.1.ws.map wrD),.v (.int .i64 x.2.vo),.v (.int .i64 x.2.bl),.v (.int .i64 x.2.sz),.v (.int .i64 x.2.pe),.ns .i64 x.2.place,.v (.int .i64 x.2.to),.v (.int .i64 x.2.ne),.v (.bool x.2.hi),.v (.int .i64 x.2.fl),.ns .i64 x.2.pins,.l 2 (x.2.ws.map wrD)] := by rw [List.getElem?_map,h]; rfl
theorem getD_take {l : List Int} {n : Nat} (h : ∀ j,j < l.length → 0 ≤ l.getD j 0 ∧ l.getD j 0 ≤ 255) : ∀ j,j < (l.take n).length → 0 ≤ (l.take n).getD j 0 ∧ (l.take n).getD j 0 ≤ 255 := fun j hj => by
 rw [List.length_take] at hj
 have := h j (by omega)
 rw [List.getD,List.getElem?_take,if_pos (by omega)]
 exact this
theorem getD_app {l r : List Int} (h : ∀ j,j < l.length → 0 ≤ l.getD j 0 ∧ l.getD j 0 ≤ 255) (h2 : ∀ j,j < r.length → 0 ≤ r.getD j 0 ∧ r.getD j 0 ≤ 255) : ∀ j,j < (l ++ r).length → 0 ≤ (l ++ r).getD j 0 ∧ (l ++ r).getD j 0 ≤ 255 := fun j hj => by
 rw [List.length_append] at hj
 rw [List.getD]
 by_cases hl : j < l.length
 · rw [List.getElem?_append_left hl]; exact h j hl
 rw [List.getElem?_append_right (by omega)]; exact h2 _ (by omega)
theorem replay_r (cs : List Cm) (pl : Option Addr) (nl cl : Nat) (w0 : World) (h1 : Rd (fun _ => True) w0 (.slice pl nl cl) (.l 10 (cs.map cmD))) (hby : ∀ c ∈ cs,∀ e ∈ c.its,BytesL e.2) (hl : cs.length ≤ 500) :
   Calls Tryz.prog 33 #[.slice pl nl cl] w0 fun e w' => ∃ (p : Option Addr) (c : Nat),e = .returned (.slice p ((rrL cs).map volD).length c) ∧ Rd (New w0) w' (.slice p ((rrL cs).map volD).length c) (.l 11 ((rrL cs).map volD)) ∧ Below w0.heap.size w0 w' := rep_all cs ▸ replay_x cs pl nl cl w0 h1 hby hl
set_option maxRecDepth 100000
set_option maxHeartbeats 4000000
theorem replays_walk (y0 y2 y3 : List Int) (raw : List Cm) (z : VolV) (q0 q1 q2 q3 p1 p2 p3 : Option Addr) (g0 g1 g2 g3 d1 d2 d3 : Nat) (w0 : World) (h0 : Rd (fun _ => True) w0 (.slice q0 y0.length g0) (.ns .u8 y0)) (hb0 : ∀ j,j < y0.length → 0 ≤ y0.getD j 0 ∧ y0.getD j 0 ≤ 255) (h1 : Rd (fun _ => True) w0 (.slice q1 (raw.map cmD).length g1) (.l 10 (raw.map cmD))) (hrb : ∀ c ∈ raw,∀ e ∈ c.its,BytesL e.2) (hrl : ∀ c ∈ raw,c.its.length ≤ 140737488351232) (h2 : Rd (fun _ => True) w0 (.slice q2 y2.length g2) (.ns .u8 y2)) (hb2 : ∀ j,j < y2.length → 0 ≤ y2.getD j 0 ∧ y2.getD j 0 ≤ 255) (h3 : Rd (fun _ => True) w0 (.slice q3 y3.length g3) (.ns .u8 y3)) (hb3 : ∀ j,j < y3.length → 0 ≤ y3.getD j 0 ∧ y3.getD j 0 ≤ 255)
   (hx1 : Rd (fun _ => True) w0 (.slice p1 z.place.length d1) (.ns .i64 z.place)) (hx2 : Rd (fun _ => True) w0 (.slice p2 z.pins.length d2) (.ns .i64 z.pins)) (hx3 : Rd (fun _ => True) w0 (.slice p3 (z.ws.map wrD).length d3) (.l 2 (z.ws.map wrD))) (hwl : ∀ e ∈ z.ws,e.2.length ≤ 140737488351232) (hzb : ∀ e ∈ z.ws,∀ x ∈ e.2,BytesL x.2) :
   Calls Tryz.prog 5 #[.slice q0 y0.length g0,.slice q1 (raw.map cmD).length g1,.slice q2 y2.length g2,.slice q3 y3.length g3,.agg #[.int .i64 z.vo,.int .i64 z.bl,.int .i64 z.sz,.int .i64 z.pe,.slice p1 z.place.length d1,.int .i64 z.to,.int .i64 z.ne,.bool z.hi,.int .i64 z.fl,.slice p2 z.pins.length d2,.slice p3 (z.ws.map wrD).length d3]] w0 fun e w' => e = .returned (.bool true) ∧ Below w0.heap.size w0 w' := by
 refine ent5 Tryz.func5 rfl Tryz.ntmps5 fun Y U =>?_
 have m0 := ((((((((MemOk.start (fun _ => True) w0).dat 11 rfl (h0.cast (fun _ _ => (free_nil (fun _ => trivial))))).dat 12 rfl (h1.cast (fun _ _ => (free_add rfl (free_nil (fun _ => trivial)))))).dat 13 rfl (h2.cast (fun _ _ => (free_add rfl (free_add rfl (free_nil (fun _ => trivial))))))).dat 14 rfl (h3.cast (fun _ _ => (free_add rfl (free_add rfl (free_add rfl (free_nil (fun _ => trivial)))))))).dat 41 rfl (hx1.cast (fun _ _ => (free_add rfl (free_add rfl (free_add rfl (free_add rfl (free_nil (fun _ => trivial))))))))).dat 42 rfl (hx2.cast (fun _ _ => (free_add rfl (free_add rfl (free_add rfl (free_add rfl (free_add rfl (free_nil (fun _ => trivial)))))))))).dat 43 rfl (hx3.cast (fun _ _ => (free_add rfl (free_add rfl (free_add rfl (free_add rfl (free_add rfl (free_add rfl (free_nil (fun _ => trivial)))))))))))
 refine zsr fun K0 hK0 =>?_
 refine plz (e_box U m0 300 (cs := [_,_,_,_,_,_,_,_,_,_,_]) rfl rfl rfl fun g1 Y w2 U m2 _ _ =>?_)
 refine gz hK0 U (.assign rfl .nil) fun Y U =>?_
 refine wsk fun K1 hK1 =>?_
 refine zsr fun K2 hK2 =>?_
 refine plz (ecb U Tryz.func31 rfl m2 (known26 _) fun Y w4 U m5 =>?_)
 refine gz hK2 U (.not rfl .nil) fun Y U =>?_
 refine wcf U ?_
 refine zss (hK1 _ _ ?_)
 refine wsk fun K3 hK3 =>?_
 refine zsr fun K4 hK4 =>?_
 refine goCh U (.move rfl<|.len rfl U22<|.gtr rfl rfl<|.move rfl .nil) fun Y U =>?_
 refine bc U 26 ?_ ?_
 ·
  intro hb16 U; try simp only [QQ,Qax] at hb16
  refine gz hK4 U (.sk<|.sk<|.sk<|.pickT rfl rfl<|.move rfl<|.sk<|.sk<|.sk<|.pickT rfl rfl<|.move rfl<|.sk<|.sk<|.sk<|.pickT rfl rfl<|.move rfl<|.sk<|.sk<|.sk<|.pickT rfl rfl<|.nil) fun Y U =>?_
  refine wct U ?_
  replace U := U.oz [0,1,2,3,9,10]
  refine regS U (.assign rfl .nil) fun Y U =>?_
  refine rt1 U ?_
  exact ⟨rfl,m5.below⟩
 intro hb16 U; try simp only [QQ,Qax] at hb16
 have hc0 := hb16
 refine goCh U (.moveZ rfl<|.lenZ rfl U24<|.gtrZ rfl rfl<|.pickF rfl rfl<|.move rfl .nil) fun Y U =>?_
 refine bc U 31 ?_ ?_
 ·
  intro hb43 U; try simp only [QQ,Qax] at hb43
  refine gz hK4 U (.sk<|.sk<|.sk<|.pickT rfl rfl<|.move rfl<|.sk<|.sk<|.sk<|.pickT rfl rfl<|.move rfl<|.sk<|.sk<|.sk<|.pickT rfl rfl<|.nil) fun Y U =>?_
  refine wct U ?_
  replace U := U.oz [0,1,2,3,9,10]
  refine regS U (.assign rfl .nil) fun Y U =>?_
  refine rt1 U ?_
  exact ⟨rfl,m5.below⟩
 intro hb43 U; try simp only [QQ,Qax] at hb43
 have hc1 := hb43
 refine goCh U (.moveZ rfl<|.lenZ rfl U22<|.gtrZ rfl rfl<|.pickF rfl rfl<|.move rfl .nil) fun Y U =>?_
 refine bc U 36 ?_ ?_
 ·
  intro hb65 U; try simp only [QQ,Qax] at hb65
  refine gz hK4 U (.sk<|.sk<|.sk<|.pickT rfl rfl<|.move rfl<|.sk<|.sk<|.sk<|.pickT rfl rfl<|.nil) fun Y U =>?_
  refine wct U ?_
  replace U := U.oz [0,1,2,3,9,10]
  refine regS U (.assign rfl .nil) fun Y U =>?_
  refine rt1 U ?_
  exact ⟨rfl,m5.below⟩
 intro hb65 U; try simp only [QQ,Qax] at hb65
 have hc2 := hb65
 refine goCh U (.moveZ rfl<|.lenZ rfl U22<|.gtrZ rfl rfl<|.pickF rfl rfl<|.move rfl .nil) fun Y U =>?_
 refine bc U 41 ?_ ?_
 ·
  intro hb82 U; try simp only [QQ,Qax] at hb82
  refine gz hK4 U (.sk<|.sk<|.sk<|.pickT rfl rfl<|.nil) fun Y U =>?_
  refine wct U ?_
  replace U := U.oz [0,1,2,3,9,10]
  refine regS U (.assign rfl .nil) fun Y U =>?_
  refine rt1 U ?_
  exact ⟨rfl,m5.below⟩
 intro hb82 U; try simp only [QQ,Qax] at hb82
 have hc3 := hb82
 refine goCh U (.loadBRZ m5 (i := 300) rfl rfl U51 rfl fct13 (by simp) (by dsimp only [List.drop,List.take] <;> rfl) .nil) fun Y U =>?_
 refine stz U (ecl U Tryz.func32 rfl (small_any z _ _ _ _ _ _ _ ((m5.rd (i := 41) rfl).any) ((m5.rd (i := 42) rfl).any) ((m5.rd (i := 43) rfl).any) hwl) ?_)
 rintro e w90 ⟨sm,rfl,hsm,hb90⟩
 have m91 := m5.later hb90
 refine ⟨_,rfl,?_⟩; intro Y U
 refine gz hK4 U (.notZ rfl<|.pickF rfl rfl<|.nil) fun Y U =>?_
 refine bc U 45 ?_ ?_
 ·
  intro hb95 U; try simp only [QQ,Qax] at hb95
  refine wct U ?_
  replace U := U.oz [0,1,2,3,9,10]
  refine regS U (.assign rfl .nil) fun Y U =>?_
  refine rt1 U ?_
  exact ⟨rfl,m91.below⟩
 intro hb95 U; try simp only [QQ,Qax] at hb95
 have hsm9 := hsm (by simp_all)
 have hl9 : y0.length ≤ 120 ∧ raw.length ≤ 6 ∧ y2.length ≤ 60 ∧ y3.length ≤ 60 := by simp at hc0 hc1 hc2 hc3; omega
 have hBz : VolB z := ⟨by omega,by omega,by omega,fun e he => ⟨by have := hsm9.2.2.2 e he; omega,hzb e he⟩⟩
 refine wcf U ?_
 refine zss (hK3 _ _ ?_)
 replace U := U.oz [0,1,2,3,9,10]
 refine zsr fun K5 hK5 =>?_
 refine goCh U (.move rfl .nil) fun Y U =>?_
 refine plz (ecl U Tryz.func10 rfl (scmds_r y0 _ _ _ ((m91.rd (i := 11) rfl).any) (by omega) hb0) ?_)
 rintro e w101 ⟨cs,p101,c101,rfl,hcl,hcB,ho101,hb101⟩
 have m102 := m91.callR 301 hb101 (ho101.cast (fun b h => ⟨h.1.elim False.elim .inr,h.2⟩))
 refine ⟨_,rfl,?_⟩; intro Y U
 refine goCh U (.move rfl .nil) fun Y U =>?_
 refine plz (e_appR U m102 301 rfl rfl rfl (m102.rd (i := 12) rfl) U24 fct36 rfl rfl (by decide) (by rw [List.length_map,List.length_map]; omega) rfl fun p105 c105 Y w106 U m106 =>?_)
 refine gz hK5 U (.assign rfl .nil) fun Y U =>?_
 replace U := U.oz [2,3,9,10,11]
 refine zsr fun K6 hK6 =>?_
 refine goCh U (.build rfl fct39 fl32lrp rfl (by dsimp only [setL,List.set] <;> rfl) .nil) fun Y U =>?_
 refine plz (e_box U m106 302 (cs := [_]) rfl rfl rfl fun g111 Y w112 U m112 _ _ =>?_)
 refine gz hK6 U (.assign rfl .nil) fun Y U =>?_
 refine wsk fun K7 hK7 =>?_
 refine regS U (.assign rfl .nil) fun Y U =>?_
 refine wp_block ?_
 have m115 := m112.freezeR 301 rfl
 simp only [← List.map_append] at m115 U
 obtain ⟨ds,hds⟩ : ∃ ds,ds = cs ++ raw := ⟨_,rfl⟩
 rw [← hds] at m115 U
 have hdn : ds.length ≤ 36 := by rw [hds,List.length_append]; omega
 have hdb : ∀ c ∈ ds,∀ e ∈ c.its,BytesL e.2 := fun c hc => by rw [hds] at hc; exact (List.mem_append.1 hc).elim (fun h e he => ((hcB c h).2 e he).2) (hrb c)
 have hdl : ∀ c ∈ ds,c.its.length ≤ 140737488351232 := fun c hc => by rw [hds] at hc; exact (List.mem_append.1 hc).elim (fun h => by have := (hcB c h).1.il; omega) (hrl c)
 refine wp_loop_ghost (fun g a w => ∃ (k B B9 c c8 : Nat) (R : List VolV) (p p8 : Option Addr),k ≤ ds.length ∧ R = rrL (ds.take k) ∧ (∀ y ∈ R,VolS k y) ∧ R.length ≤ k ∧ SrtV R ∧ g = ds.length - k ∧ Has 145 [(2,.slice q2 y2.length g2),(3,.slice q3 y3.length g3),(9,.pointer (some ⟨B9,0,none⟩)),(11,.slice p8 (ds.map cmD).length c8),(12,.pointer (some ⟨B,0,none⟩)),(13,.int .i64 k)] a ∧ MemOk (cx (fun _ => True) w0) w0 [(1,.box B 32 [.slice p ((R).map volD).length c]),(2,.dat (.slice p ((R).map volD).length c) (.l 11 ((R).map volD))),(8,.dat (.slice p8 (ds.map cmD).length c8) (.l 10 (ds.map cmD))),(9,.box B9 51 [.int .i64 z.vo,.int .i64 z.bl,.int .i64 z.sz,.int .i64 z.pe,.slice p1 z.place.length d1,.int .i64 z.to,.int .i64 z.ne,.bool z.hi,.int .i64 z.fl,.slice p2 z.pins.length d2,.slice p3 (z.ws.map wrD).length d3]),(41,.dat (.slice p1 z.place.length d1) (.ns .i64 z.place)),(42,.dat (.slice p2 z.pins.length d2) (.ns .i64 z.pins)),(43,.dat (.slice p3 (z.ws.map wrD).length d3) (.l 2 (z.ws.map wrD))),(13,.dat (.slice q2 y2.length g2) (.ns .u8 y2)),(14,.dat (.slice q3 y3.length g3) (.ns .u8 y3))] w) (ds.length) ?_ ?_
 · have mz := m115.dat 2 rfl (Rd.l0 none 0 11)
   exact ⟨0,_,_,_,_,[],_,_,Nat.zero_le _,rfl,(fun y hy => by cases hy),Nat.zero_le _,List.Pairwise.nil,rfl,U.only [2,3,9,11,12,13],mz.ren [(1,302),(2,2),(8,301),(9,300),(41,41),(42,42),(43,43),(13,13),(14,14)] (by decide)⟩
 clear U m115
 rintro g Y w116 ⟨k,B,B9,c,c8,R,p,p8,hkl,hRR,hRV,hRl,hRS,hg,U,m116⟩
 refine wsk fun K8 hK8 =>?_
 refine regS U (.move rfl<|.move rfl<|.len rfl U24<|.lss rfl rfl .nil) fun Y U =>?_
 refine bc U 55 ?_ ?_
 ·
  intro hb121 U; try simp only [QQ,Qax] at hb121
  have hk : k < ds.length := by have := hb121; simp at this; omega
  obtain ⟨x,hes⟩ : ∃ e,ds[k]? = some e := ⟨_,List.getElem?_eq_getElem hk⟩
  refine wct U ?_
  refine zss (hK8 _ _ ?_)
  refine wsk fun K9 hK9 =>?_
  refine wp_block ?_
  refine wsk fun K10 hK10 =>?_
  refine zsr fun K11 hK11 =>?_
  refine goCh U (.move rfl<|.move rfl .nil) fun Y U =>?_
  obtain ⟨b127,o127,vs127,hp127,hR127,ho127,m127⟩ := m116.openR (i := 8) rfl (k) (r := [.v (.int .i64 x.kd),.v (.int .i64 x.vo),.v (.int .i64 x.bl),.v (.int .i64 x.sz),.v (.int .i64 x.pe),.ns .i64 x.pl,.v (.int .i64 x.to),.v (.int .i64 x.at0),.v (.int .i64 x.ix),.l 2 (x.its.map itD)]) (cmD_get hes) 400 rfl
  revert U
  cases hp127; clear m116 ho127
  rcases hR127 with _ | ⟨hd127_0,_ | ⟨hd127_1,_ | ⟨hd127_2,_ | ⟨hd127_3,_ | ⟨hd127_4,_ | ⟨hd127_5,_ | ⟨hd127_6,_ | ⟨hd127_7,_ | ⟨hd127_8,_ | ⟨hd127_9,_ | _⟩⟩⟩⟩⟩⟩⟩⟩⟩⟩
  obtain rfl := hd127_0.v_out
  clear hd127_0
  obtain rfl := hd127_1.v_out
  clear hd127_1
  obtain rfl := hd127_2.v_out
  clear hd127_2
  obtain rfl := hd127_3.v_out
  clear hd127_3
  obtain rfl := hd127_4.v_out
  clear hd127_4
  obtain ⟨p128,c128,hv128,hc128⟩ := hd127_5.ns_shape; subst hv128
  intro U
  have m128 := m127.dat 401 rfl (hd127_5.cast (fun _ h => (free_add rfl h))); clear m127 hd127_5
  revert U
  obtain rfl := hd127_6.v_out
  clear hd127_6
  obtain rfl := hd127_7.v_out
  clear hd127_7
  obtain rfl := hd127_8.v_out
  clear hd127_8
  obtain ⟨p129,c129,hv129,hc129⟩ := hd127_9.l_shape; subst hv129
  intro U
  have m129 := m128.dat 402 rfl (hd127_9.cast (fun _ h => (free_add rfl (free_add rfl h)))); clear m128 hd127_9
  refine goCh U (.c rfl (fun _ h_ => y_idx h_ rfl rfl U24 fct19 (k) rfl (by simpa using hk))<|.loadCR m129 (i := 400) rfl rfl U38 rfl fct19 .nil) fun Y U =>?_
  refine plz (ecl U Tryz.func11 rfl (smallC_any x.kd x.vo x.bl x.sz x.pe x.to x.at0 x.ix x.pl x.its _ _ _ _ _ _ ((m129.rd (i := 401) rfl).any) ((m129.rd (i := 402) rfl).any) (hdl _ (List.mem_of_getElem? hes))) ?_)
  rintro e w132 ⟨sc,rfl,hsc,hb132⟩
  have m133 := m129.later hb132
  refine ⟨_,rfl,?_⟩; intro Y U
  refine gz hK11 U (.not rfl .nil) fun Y U =>?_
  refine bc U 63 ?_ ?_
  ·
   intro hb136 U; try simp only [QQ,Qax] at hb136
   refine wct U ?_
   replace U := U.oz [2,3,9,11,12,13]
   refine regS U (.assign rfl .nil) fun Y U =>?_
   refine rt1 U ?_
   exact ⟨rfl,m133.below⟩
  intro hb136 U; try simp only [QQ,Qax] at hb136
  have hsc9 := hsc (by simp_all)
  refine wcf U ?_
  refine zss (hK10 _ _ ?_)
  refine wsk fun K12 hK12 =>?_
  by_cases hR : CmdR x
  ·
   replace U := U.oz [2,3,9,11,12,13]
   refine wp_region_lit ?_
   refine goCh U (.move rfl<|.move rfl .nil) fun Y U =>?_
   obtain ⟨b142,o142,vs142,hp142,hR142,ho142,m142⟩ := m133.openR (i := 8) rfl (k) (r := [.v (.int .i64 x.kd),.v (.int .i64 x.vo),.v (.int .i64 x.bl),.v (.int .i64 x.sz),.v (.int .i64 x.pe),.ns .i64 x.pl,.v (.int .i64 x.to),.v (.int .i64 x.at0),.v (.int .i64 x.ix),.l 2 (x.its.map itD)]) (cmD_get hes) 403 rfl
   revert U
   cases hp142; clear m133 ho142
   rcases hR142 with _ | ⟨hd142_0,_ | ⟨hd142_1,_ | ⟨hd142_2,_ | ⟨hd142_3,_ | ⟨hd142_4,_ | ⟨hd142_5,_ | ⟨hd142_6,_ | ⟨hd142_7,_ | ⟨hd142_8,_ | ⟨hd142_9,_ | _⟩⟩⟩⟩⟩⟩⟩⟩⟩⟩
   obtain rfl := hd142_0.v_out
   clear hd142_0
   obtain rfl := hd142_1.v_out
   clear hd142_1
   obtain rfl := hd142_2.v_out
   clear hd142_2
   obtain rfl := hd142_3.v_out
   clear hd142_3
   obtain rfl := hd142_4.v_out
   clear hd142_4
   obtain ⟨p143,c143,hv143,hc143⟩ := hd142_5.ns_shape; subst hv143
   intro U
   have m143 := m142.dat 404 rfl (hd142_5.cast (fun _ h => (free_add rfl h))); clear m142 hd142_5
   revert U
   obtain rfl := hd142_6.v_out
   clear hd142_6
   obtain rfl := hd142_7.v_out
   clear hd142_7
   obtain rfl := hd142_8.v_out
   clear hd142_8
   obtain ⟨p144,c144,hv144,hc144⟩ := hd142_9.l_shape; subst hv144
   intro U
   have m144 := m143.dat 405 rfl (hd142_9.cast (fun _ h => (free_add rfl (free_add rfl h)))); clear m143 hd142_9
   refine goCh U (.c rfl (fun _ h_ => y_idx h_ rfl rfl U24 fct19 (k) rfl (by simpa using hk))<|.loadCR m144 (i := 403) rfl rfl U38 rfl fct19 .nil) fun Y U =>?_
   refine plz (ecl U Tryz.func12 rfl (rputCmd_x x.kd x.vo x.bl x.sz x.pe x.to x.at0 x.ix x.pl x.its _ _ _ _ _ _ ((m144.rd (i := 404) rfl).any) ((m144.rd (i := 405) rfl).any) (hR.ok (hdb _ (List.mem_of_getElem? hes)))) ?_)
   rintro e w147 ⟨p147,c147,rfl,hd147,hb147⟩
   have m148 := m144.callF 406 rfl hb147 hd147
   refine ⟨_,rfl,?_⟩; intro Y U
   refine gz hK12 U (.move rfl<|.extract rfl rfl<|.extract rfl rfl<|.assign rfl<|.assign rfl<|.nil) fun Y U =>?_
   replace U := U.oz [2,3,9,11,12,13,14,15]
   refine regS U (.move rfl<|.eql rfl rfl .nil) fun Y U =>?_
   refine bc U 73 ?_ ?_
   rotate_left
   · intro hb _; exact absurd hb (by simp)
   clear U; intro _ U
   refine wct U ?_
   refine wp_region_lit ?_
   refine goCh U (.move rfl<|.move rfl .nil) fun Y U =>?_
   refine plz (ecl U Tryz.func15 rfl (rapply_e _ _ k R _ _ x.kd x.vo x.bl x.sz x.pe x.to x.at0 x.ix x.pl x.its _ _ _ hRV (by omega) (by omega) hRS.nodup (hR.ok (hdb _ (List.mem_of_getElem? hes))) (m148.into [(1,1),(2,2),(3,406)] (by decide) rfl)) ?_)
   rintro e w161 ⟨L2,e1,rl1,rf1,rn1,p161,c161,rfl,hap,hm161⟩
   have mx161 := m148.back hm161 [(1,1),(2,2)] (by decide); clear hm161 m148
   have m161 := mx161.oz [1,2,8,9,13,14,41,42,43,400,401,402,403,404,405]
   refine ⟨_,rfl,?_⟩; intro Y U
   refine znl (hK9 _ _ ?_)
   replace U := U.oz [2,3,9,11,12,13]
   refine wp_region_lit ?_
   refine goCh U (.move rfl<|.inc (k + 1)<|.assign rfl .nil) fun Y U =>?_
   refine wpList_nil ?_
   show ∃ n',n' < _ ∧ _
   obtain ⟨ha1,ha2,ha3⟩ := rApp_s (c := x) hRS hRV (hdb _ (List.mem_of_getElem? hes))
   have hL2 : (rApp R x).1 = L2 := congrArg Prod.fst hap
   rw [hL2] at ha1 ha2 ha3
   exact ⟨ds.length - (k + 1),by omega,k + 1,_,_,_,_,L2,_,_,by omega,by rw [rrL_yes hes hR,← hRR,hL2],ha1,by omega,ha3,rfl,U.only [2,3,9,11,12,13],m161.ren [(1,1),(2,2),(8,8),(9,9),(41,41),(42,42),(43,43),(13,13),(14,14)] (by decide)⟩
  replace U := U.oz [2,3,9,11,12,13]
  refine wp_region_lit ?_
  refine goCh U (.move rfl<|.move rfl .nil) fun Y U =>?_
  obtain ⟨b170,o170,vs170,hp170,hR170,ho170,m170⟩ := m133.openR (i := 8) rfl (k) (r := [.v (.int .i64 x.kd),.v (.int .i64 x.vo),.v (.int .i64 x.bl),.v (.int .i64 x.sz),.v (.int .i64 x.pe),.ns .i64 x.pl,.v (.int .i64 x.to),.v (.int .i64 x.at0),.v (.int .i64 x.ix),.l 2 (x.its.map itD)]) (cmD_get hes) 403 rfl
  revert U
  cases hp170; clear m133 ho170
  rcases hR170 with _ | ⟨hd170_0,_ | ⟨hd170_1,_ | ⟨hd170_2,_ | ⟨hd170_3,_ | ⟨hd170_4,_ | ⟨hd170_5,_ | ⟨hd170_6,_ | ⟨hd170_7,_ | ⟨hd170_8,_ | ⟨hd170_9,_ | _⟩⟩⟩⟩⟩⟩⟩⟩⟩⟩
  obtain rfl := hd170_0.v_out
  clear hd170_0
  obtain rfl := hd170_1.v_out
  clear hd170_1
  obtain rfl := hd170_2.v_out
  clear hd170_2
  obtain rfl := hd170_3.v_out
  clear hd170_3
  obtain rfl := hd170_4.v_out
  clear hd170_4
  obtain ⟨p171,c171,hv171,hc171⟩ := hd170_5.ns_shape; subst hv171
  intro U
  have m171 := m170.dat 404 rfl (hd170_5.cast (fun _ h => (free_add rfl h))); clear m170 hd170_5
  revert U
  obtain rfl := hd170_6.v_out
  clear hd170_6
  obtain rfl := hd170_7.v_out
  clear hd170_7
  obtain rfl := hd170_8.v_out
  clear hd170_8
  obtain ⟨p172,c172,hv172,hc172⟩ := hd170_9.l_shape; subst hv172
  intro U
  have m172 := m171.dat 405 rfl (hd170_9.cast (fun _ h => (free_add rfl (free_add rfl h)))); clear m171 hd170_9
  refine goCh U (.c rfl (fun _ h_ => y_idx h_ rfl rfl U24 fct19 (k) rfl (by simpa using hk))<|.loadCR m172 (i := 403) rfl rfl U38 rfl fct19 .nil) fun Y U =>?_
  refine plz (ecb U Tryz.func12 rfl m172 (rputCmd_no x.kd x.vo x.bl x.sz x.pe x.to x.at0 x.ix x.pl x.its _ _ _ _ _ _ ((m172.rd (i := 404) rfl).any) ((m172.rd (i := 405) rfl).any) (by omega) (by have := hsc9.2.1; omega) hR) fun Y w175 U m176 =>?_)
  refine gz hK12 U (.move rfl<|.extract rfl rfl<|.extract rfl rfl<|.assign rfl<|.assign rfl<|.nil) fun Y U =>?_
  replace U := U.oz [2,3,9,11,12,13,14,15]
  refine regS U (.move rfl<|.eql rfl rfl .nil) fun Y U =>?_
  refine bc U 73 ?_ ?_
  · intro hb _; exact absurd hb (by simp)
  clear U; intro _ U
  refine wcf U ?_
  refine zss (hK9 _ _ ?_)
  refine wp_region_lit ?_
  refine goCh U (.move rfl<|.inc (k + 1)<|.assign rfl .nil) fun Y U =>?_
  refine wpList_nil ?_
  show ∃ n',n' < _ ∧ _
  exact ⟨ds.length - (k + 1),by omega,k + 1,_,_,_,_,R,_,_,by omega,by rw [rrL_no hes hR,← hRR],(fun y hy => (hRV y hy).up (by omega)),by omega,hRS,rfl,U.only [2,3,9,11,12,13],m176.ren [(1,1),(2,2),(8,8),(9,9),(41,41),(42,42),(43,43),(13,13),(14,14)] (by decide)⟩
 intro hb121 U; try simp only [QQ,Qax] at hb121
 have hkd : k = ds.length := by have := hb121; simp at this; omega
 rw [hkd,List.take_length] at hRR
 revert U
 subst hRR
 intro U
 refine wcf U ?_
 refine wp_exit ?_
 refine hK7 _ _ ?_
 refine wsk fun K13 hK13 =>?_
 have hC13 : ∀ (a : Act) (w : World),(∃ (B9 : Nat),Has 145 [(2,.slice q2 y2.length g2),(3,.slice q3 y3.length g3),(9,.pointer (some ⟨B9,0,none⟩))] a ∧ MemOk (cx (fun _ => True) w0) w0 [(9,.box B9 51 [.int .i64 z.vo,.int .i64 z.bl,.int .i64 z.sz,.int .i64 z.pe,.slice p1 z.place.length d1,.int .i64 z.to,.int .i64 z.ne,.bool z.hi,.int .i64 z.fl,.slice p2 z.pins.length d2,.slice p3 (z.ws.map wrD).length d3]),(41,.dat (.slice p1 z.place.length d1) (.ns .i64 z.place)),(42,.dat (.slice p2 z.pins.length d2) (.ns .i64 z.pins)),(43,.dat (.slice p3 (z.ws.map wrD).length d3) (.l 2 (z.ws.map wrD))),(13,.dat (.slice q2 y2.length g2) (.ns .u8 y2)),(14,.dat (.slice q3 y3.length g3) (.ns .u8 y3))] w) → K13 a w := by
   clear U m116
   rintro Y w190 ⟨B9,U,m190⟩
   refine hK13 _ _ ?_
   refine zsr fun K14 hK14 =>?_
   refine goCh U (.move rfl .nil) fun Y U =>?_
   refine plz (ecl U Tryz.func34 rfl (svol_r y2 _ _ _ ((m190.rd (i := 13) rfl).any) (by omega) hb2) ?_)
   rintro e w193 ⟨v,pv1,pv2,pv3,dv1,dv2,dv3,rfl,hSv,ha193,hc193,hd193,hb193⟩
   have m194 := m190.callF3 500 501 502 rfl rfl rfl hb193 ha193 hc193 hd193
   clear ha193 hc193 hd193 hb193
   refine ⟨_,rfl,?_⟩; intro Y U
   refine goCh U (.move rfl .nil) fun Y U =>?_
   refine plz (ecl U Tryz.func34 rfl (svol_r y3 _ _ _ ((m194.rd (i := 14) rfl).any) (by omega) hb3) ?_)
   rintro e w197 ⟨u,pu1,pu2,pu3,du1,du2,du3,rfl,hSu,ha197,hc197,hd197,hb197⟩
   have m198 := m194.callF3 503 504 505 rfl rfl rfl hb197 ha197 hc197 hd197
   clear ha197 hc197 hd197 hb197
   refine ⟨_,rfl,?_⟩; intro Y U
   refine plz (e_alloc U m198 506 fct14 rfl fun g200 Y w201 U m201 _ _ =>?_)
   refine plz (e_alloc U m201 507 fct14 rfl fun g202 Y w203 U m203 _ _ =>?_)
   refine plz (stw U m203 506 fct13 fun w204 m204 _ =>?_)
   refine plz (stw U m204 507 fct13 fun w205 m205 _ =>?_)
   refine znl (hK14 _ _ ?_)
   refine zsr fun K15 hK15 =>?_
   refine goCh U (.move rfl<|.move rfl<|.len rfl U22<|.quo rfl rfl (by decide) (r := ((y2.length / 4 : Nat) : Int)) (by rw [Int.tdiv_eq_ediv_of_nonneg (by omega),IntWalk.i64_in _ (by omega)]; omega)<|.mul rfl rfl (r := ((y2.length / 4 * 4 : Nat) : Int)) (by rw [IntWalk.i64_in _ (by omega)]; omega) .nil) fun Y U =>?_
   have m217 := m205.takeN (i := 13) rfl (y2.length / 4 * 4) (by omega) 508 rfl
   have hcap217 := (m205.rd (i := 13) rfl).ns_out.cap; clear m205
   refine goCh U (.c rfl (fun _ h_ => y_sliceHn h_ (y2.length / 4 * 4) rfl rfl U22 fct23 rfl (Nat.le_trans (by omega) hcap217.1)) .nil) fun Y U =>?_
   refine plz (e_app0N U m217 509 rfl rfl (m217.nums (i := 508) rfl) U22 fct0 (by decide) (by rw [List.length_take]; omega) rfl fun p219 c219 Y w220 U m220 =>?_)
   refine goCh U (.move rfl .nil) fun Y U =>?_
   refine plz (e_appN U m220 509 rfl rfl rfl (m220.nums (i := 14) rfl) U22 fct0 (by decide) (by rw [List.length_take]; omega) rfl fun p222 c222 Y w223 U m223 =>?_)
   have m224 := m223.freezeN 509 rfl
   refine plz (ecl U Tryz.func34 rfl (svol_r (y2.take (y2.length / 4 * 4) ++ y3) _ _ _ ((m224.rd (i := 509) rfl).any) (by rw [List.length_append,List.length_take]; omega) (getD_app (getD_take hb2) hb3)) ?_)
   rintro e w225 ⟨lw,plw1,plw2,plw3,dlw1,dlw2,dlw3,rfl,hSlw,ha225,hc225,hd225,hb225⟩
   have m226 := m224.callF3 510 511 512 rfl rfl rfl hb225 ha225 hc225 hd225
   clear ha225 hc225 hd225 hb225
   refine ⟨_,rfl,?_⟩; intro Y U
   refine plz (e_alloc U m226 513 fct14 rfl fun g228 Y w229 U m229 _ _ =>?_)
   refine plz (stw U m229 513 fct13 fun w230 m230 _ =>?_)
   refine znl (hK15 _ _ ?_)
   refine wsk fun K16 hK16 =>?_
   replace U := U.oz [2,3,9,16,17,18]
   refine zsr fun K17 hK17 =>?_
   refine goCh U (.loadBR m230 (i := 506) rfl rfl U51 rfl fct13 (by simp) (by dsimp only [List.drop,List.take] <;> rfl)<|.loadBR m230 (i := 507) rfl rfl U51 rfl fct13 (by simp) (by dsimp only [List.drop,List.take] <;> rfl)<|.c rfl (fun _ h_ => y_buildAS h_ rfl fct42 U71 fct13 (by dsimp only [putA] <;> rfl))<|.loadBR m230 (i := 506) rfl rfl U51 rfl fct13 (by simp) (by dsimp only [List.drop,List.take] <;> rfl)<|.loadBR m230 (i := 513) rfl rfl U51 rfl fct13 (by simp) (by dsimp only [List.drop,List.take] <;> rfl)<|.c rfl (fun _ h_ => y_buildAS h_ rfl fct42 U71 fct13 (by dsimp only [putA] <;> rfl))<|.loadBR m230 (i := 513) rfl rfl U51 rfl fct13 (by simp) (by dsimp only [List.drop,List.take] <;> rfl)<|.loadBR m230 (i := 506) rfl rfl U51 rfl fct13 (by simp) (by dsimp only [List.drop,List.take] <;> rfl)<|.c rfl (fun _ h_ => y_buildAS h_ rfl fct42 U71 fct13 (by dsimp only [putA] <;> rfl))<|.loadBR m230 (i := 9) rfl rfl U51 rfl fct13 (by simp) (by dsimp only [List.drop,List.take] <;> rfl)<|.loadBR m230 (i := 506) rfl rfl U51 rfl fct13 (by simp) (by dsimp only [List.drop,List.take] <;> rfl)<|.c rfl (fun _ h_ => y_buildAS h_ rfl fct42 U71 fct13 (by dsimp only [putA] <;> rfl))<|.loadBR m230 (i := 506) rfl rfl U51 rfl fct13 (by simp) (by dsimp only [List.drop,List.take] <;> rfl)<|.loadBR m230 (i := 506) rfl rfl U51 rfl fct13 (by simp) (by dsimp only [List.drop,List.take] <;> rfl)<|.c rfl (fun _ h_ => y_buildAS h_ rfl fct42 U71 fct13 (by dsimp only [putA] <;> rfl)) .nil) fun Y U =>?_
   refine plz (e_litR U m230 514 (mm := 22) rfl (.cons rfl rfl (.cons (.v _) (.cons (.v _) (.cons (.v _) (.cons (.v _) (.cons (m230.rd (i := 500) rfl) (.cons (.v _) (.cons (.v _) (.cons (.v _) (.cons (.v _) (.cons (m230.rd (i := 501) rfl) (.cons (m230.rd (i := 502) rfl) (.cons (.v _) (.cons (.v _) (.cons (.v _) (.cons (.v _) (.cons (m230.rd (i := 503) rfl) (.cons (.v _) (.cons (.v _) (.cons (.v _) (.cons (.v _) (.cons (m230.rd (i := 504) rfl) (.cons (m230.rd (i := 505) rfl) .nil))))))))))))))))))))))<|.cons rfl rfl (.cons (.v _) (.cons (.v _) (.cons (.v _) (.cons (.v _) (.cons (m230.rd (i := 500) rfl) (.cons (.v _) (.cons (.v _) (.cons (.v _) (.cons (.v _) (.cons (m230.rd (i := 501) rfl) (.cons (m230.rd (i := 502) rfl) (.cons (.v _) (.cons (.v _) (.cons (.v _) (.cons (.v _) (.cons (m230.rd (i := 510) rfl) (.cons (.v _) (.cons (.v _) (.cons (.v _) (.cons (.v _) (.cons (m230.rd (i := 511) rfl) (.cons (m230.rd (i := 512) rfl) .nil))))))))))))))))))))))<|.cons rfl rfl (.cons (.v _) (.cons (.v _) (.cons (.v _) (.cons (.v _) (.cons (m230.rd (i := 510) rfl) (.cons (.v _) (.cons (.v _) (.cons (.v _) (.cons (.v _) (.cons (m230.rd (i := 511) rfl) (.cons (m230.rd (i := 512) rfl) (.cons (.v _) (.cons (.v _) (.cons (.v _) (.cons (.v _) (.cons (m230.rd (i := 500) rfl) (.cons (.v _) (.cons (.v _) (.cons (.v _) (.cons (.v _) (.cons (m230.rd (i := 501) rfl) (.cons (m230.rd (i := 502) rfl) .nil))))))))))))))))))))))<|.cons rfl rfl (.cons (.v _) (.cons (.v _) (.cons (.v _) (.cons (.v _) (.cons (m230.rd (i := 41) rfl) (.cons (.v _) (.cons (.v _) (.cons (.v _) (.cons (.v _) (.cons (m230.rd (i := 42) rfl) (.cons (m230.rd (i := 43) rfl) (.cons (.v _) (.cons (.v _) (.cons (.v _) (.cons (.v _) (.cons (m230.rd (i := 500) rfl) (.cons (.v _) (.cons (.v _) (.cons (.v _) (.cons (.v _) (.cons (m230.rd (i := 501) rfl) (.cons (m230.rd (i := 502) rfl) .nil))))))))))))))))))))))<|.cons rfl rfl (.cons (.v _) (.cons (.v _) (.cons (.v _) (.cons (.v _) (.cons (m230.rd (i := 500) rfl) (.cons (.v _) (.cons (.v _) (.cons (.v _) (.cons (.v _) (.cons (m230.rd (i := 501) rfl) (.cons (m230.rd (i := 502) rfl) (.cons (.v _) (.cons (.v _) (.cons (.v _) (.cons (.v _) (.cons (m230.rd (i := 500) rfl) (.cons (.v _) (.cons (.v _) (.cons (.v _) (.cons (.v _) (.cons (m230.rd (i := 501) rfl) (.cons (m230.rd (i := 502) rfl) .nil)))))))))))))))))))))) .nil) U72 fct40 rfl rfl rfl rfl rfl fun g262 Y w263 U m263 =>?_)
   refine gz hK17 U (.len rfl U72<|.move rfl<|.nil) fun Y U =>?_
   refine wp_block ?_
   have m266 := m263.freezeR 514 rfl
   have hBv : VolB v := volS_B hSv (by omega)
   have hBu : VolB u := volS_B hSu (by omega)
   have hBl : VolB lw := volS_B hSlw (by rw [List.length_append,List.length_take]; omega)
   have hPB : ∀ x ∈ ([(v,u),(v,lw),(lw,v),(z,v),(v,v)] : List (VolV × VolV)),VolB x.1 ∧ VolB x.2 := by
     intro x hx
     simp only [List.mem_cons,List.not_mem_nil,or_false] at hx
     rcases hx with rfl | rfl | rfl | rfl | rfl
     · exact ⟨hBv,hBu⟩
     · exact ⟨hBv,hBl⟩
     · exact ⟨hBl,hBv⟩
     · exact ⟨hBz,hBv⟩
     exact ⟨hBv,hBv⟩
   refine wp_loop_ghost (fun g a w => ∃ (k c8 : Nat) (p8 : Option Addr),k ≤ 5 ∧ g = 5 - k ∧ Has 145 [(114,.slice p8 5 c8),(115,.int .i64 5),(116,.int .i64 k)] a ∧ MemOk (cx (fun _ => True) w0) w0 [(8,.dat (.slice p8 5 c8) (.l 22 (([(v,u),(v,lw),(lw,v),(z,v),(v,v)] : List (VolV × VolV)).map pD)))] w) (5) ?_ ?_
   · exact ⟨0,_,_,Nat.zero_le _,rfl,U.only [114,115,116],m266.ren [(8,514)] (by decide)⟩
   clear U m266
   rintro g Y w267 ⟨k,c8,p8,hkl,hg,U,m267⟩
   refine regS U (.lss rfl rfl .nil) fun Y U =>?_
   refine wsk fun K18 hK18 =>?_
   refine bc U 117 ?_ ?_
   ·
    intro hb269 U; try simp only [QQ,Qax] at hb269
    have hk : k < 5 := by have := hb269; first | omega | (simp at this; omega)
    obtain ⟨x,hes⟩ : ∃ e,([(v,u),(v,lw),(lw,v),(z,v),(v,v)])[k]? = some e := ⟨_,List.getElem?_eq_getElem (by simpa using hk)⟩
    refine wct U ?_
    refine zss (hK18 _ _ ?_)
    refine wsk fun K19 hK19 =>?_
    refine wp_block ?_
    refine zsr fun K20 hK20 =>?_
    obtain ⟨b271,o271,vs271,hp271,hR271,ho271,m271⟩ := m267.openR (i := 8) rfl (k) (r := [.v (.int .i64 x.1.vo),.v (.int .i64 x.1.bl),.v (.int .i64 x.1.sz),.v (.int .i64 x.1.pe),.ns .i64 x.1.place,.v (.int .i64 x.1.to),.v (.int .i64 x.1.ne),.v (.bool x.1.hi),.v (.int .i64 x.1.fl),.ns .i64 x.1.pins,.l 2 (x.1.ws.map wrD),.v (.int .i64 x.2.vo),.v (.int .i64 x.2.bl),.v (.int .i64 x.2.sz),.v (.int .i64 x.2.pe),.ns .i64 x.2.place,.v (.int .i64 x.2.to),.v (.int .i64 x.2.ne),.v (.bool x.2.hi),.v (.int .i64 x.2.fl),.ns .i64 x.2.pins,.l 2 (x.2.ws.map wrD)]) (pD_get hes) 600 rfl
    revert U
    cases hp271; clear m267 ho271
    rcases hR271 with _ | ⟨hd271_0,_ | ⟨hd271_1,_ | ⟨hd271_2,_ | ⟨hd271_3,_ | ⟨hd271_4,_ | ⟨hd271_5,_ | ⟨hd271_6,_ | ⟨hd271_7,_ | ⟨hd271_8,_ | ⟨hd271_9,_ | ⟨hd271_10,_ | ⟨hd271_11,_ | ⟨hd271_12,_ | ⟨hd271_13,_ | ⟨hd271_14,_ | ⟨hd271_15,_ | ⟨hd271_16,_ | ⟨hd271_17,_ | ⟨hd271_18,_ | ⟨hd271_19,_ | ⟨hd271_20,_ | ⟨hd271_21,_ | _⟩⟩⟩⟩⟩⟩⟩⟩⟩⟩⟩⟩⟩⟩⟩⟩⟩⟩⟩⟩⟩⟩
    obtain rfl := hd271_0.v_out
    clear hd271_0
    obtain rfl := hd271_1.v_out
    clear hd271_1
    obtain rfl := hd271_2.v_out
    clear hd271_2
    obtain rfl := hd271_3.v_out
    clear hd271_3
    obtain ⟨p272,c272,hv272,hc272⟩ := hd271_4.ns_shape; subst hv272
    intro U
    have m272 := m271.dat 601 rfl (hd271_4.cast (fun _ h => (free_add rfl h))); clear m271 hd271_4
    revert U
    obtain rfl := hd271_5.v_out
    clear hd271_5
    obtain rfl := hd271_6.v_out
    clear hd271_6
    obtain rfl := hd271_7.v_out
    clear hd271_7
    obtain rfl := hd271_8.v_out
    clear hd271_8
    obtain ⟨p273,c273,hv273,hc273⟩ := hd271_9.ns_shape; subst hv273
    intro U
    have m273 := m272.dat 602 rfl (hd271_9.cast (fun _ h => (free_add rfl (free_add rfl h)))); clear m272 hd271_9
    revert U
    obtain ⟨p274,c274,hv274,hc274⟩ := hd271_10.l_shape; subst hv274
    intro U
    have m274 := m273.dat 603 rfl (hd271_10.cast (fun _ h => (free_add rfl (free_add rfl (free_add rfl h))))); clear m273 hd271_10
    revert U
    obtain rfl := hd271_11.v_out
    clear hd271_11
    obtain rfl := hd271_12.v_out
    clear hd271_12
    obtain rfl := hd271_13.v_out
    clear hd271_13
    obtain rfl := hd271_14.v_out
    clear hd271_14
    obtain ⟨p275,c275,hv275,hc275⟩ := hd271_15.ns_shape; subst hv275
    intro U
    have m275 := m274.dat 604 rfl (hd271_15.cast (fun _ h => (free_add rfl (free_add rfl (free_add rfl (free_add rfl h)))))); clear m274 hd271_15
    revert U
    obtain rfl := hd271_16.v_out
    clear hd271_16
    obtain rfl := hd271_17.v_out
    clear hd271_17
    obtain rfl := hd271_18.v_out
    clear hd271_18
    obtain rfl := hd271_19.v_out
    clear hd271_19
    obtain ⟨p276,c276,hv276,hc276⟩ := hd271_20.ns_shape; subst hv276
    intro U
    have m276 := m275.dat 605 rfl (hd271_20.cast (fun _ h => (free_add rfl (free_add rfl (free_add rfl (free_add rfl (free_add rfl h))))))); clear m275 hd271_20
    revert U
    obtain ⟨p277,c277,hv277,hc277⟩ := hd271_21.l_shape; subst hv277
    intro U
    have m277 := m276.dat 606 rfl (hd271_21.cast (fun _ h => (free_add rfl (free_add rfl (free_add rfl (free_add rfl (free_add rfl (free_add rfl h)))))))); clear m276 hd271_21
    refine goCh U (.c rfl (fun _ h_ => y_idx h_ rfl rfl U72 fct41 (k) rfl (by simpa using hk))<|.loadCR m277 (i := 600) rfl rfl U71 rfl fct41 .nil) fun Y U =>?_
    refine plz (e_alloc U m277 607 fct42 rfl fun g280 Y w281 U m281 _ _ =>?_)
    refine plz (stw U m281 607 fct41 fun w282 m282 _ =>?_)
    refine znl (hK20 _ _ ?_)
    refine wsk fun K21 hK21 =>?_
    have m283 := m282.oz [8,600,601,602,603,604,605,606,607]
    refine region_p 24 (B := [(8,_),(600,_),(601,_),(602,_),(603,_),(604,_),(605,_),(606,_),(607,_)]) (m283.to ⟨il,il,il,il,il,il,il,il,il,trivial⟩) m283 (by kernel_rfl) (fun w284 hP284 m284 =>?_); clear m283
    refine goR hP284 [0,1,2,3,5,6,7,8] [1,3,6,8] 8 0 495 U (m284.to ⟨il,il,il,il,il,il,il,il,il,trivial⟩) (.p (fun _ _ h_ => y_idxA h_ rfl rfl U71 fct13 0 rfl (by decide) (off := 0) rfl)<|.loadBR hh (i := 607) rfl rfl U51 rfl fct13 (by simp) (by dsimp only [List.drop,List.take] <;> rfl)<|.p (fun _ _ h_ => y_idxA h_ rfl rfl U71 fct13 1 rfl (by decide) (off := 11) rfl)<|.loadBR hh (i := 607) rfl rfl U51 rfl fct13 (by simp) (by dsimp only [List.drop,List.take] <;> rfl)<|.p (fun _ _ h_ => y_idxA h_ rfl rfl U71 fct13 0 rfl (by decide) (off := 0) rfl)<|.loadBR hh (i := 607) rfl rfl U51 rfl fct13 (by simp) (by dsimp only [List.drop,List.take] <;> rfl)<|.p (fun _ _ h_ => y_idxA h_ rfl rfl U71 fct13 1 rfl (by decide) (off := 11) rfl)<|.loadBR hh (i := 607) rfl rfl U51 rfl fct13 (by simp) (by dsimp only [List.drop,List.take] <;> rfl) .nil) fun Y U =>?_
    refine so 4 ?_
    refine ecb U Tryz.func35 rfl m284 (msmP x.1 x.2 _ _ _ _ _ _ _ _ _ _ _ _ _ _ _ (hPB x (List.mem_of_getElem? hes)).1 (hPB x (List.mem_of_getElem? hes)).2 ((m284.rd (i := 601) rfl).any) ((m284.rd (i := 602) rfl).any) ((m284.rd (i := 603) rfl).any) ((m284.rd (i := 604) rfl).any) ((m284.rd (i := 605) rfl).any) ((m284.rd (i := 606) rfl).any)) fun Y w293 U m294 =>?_
    refine ⟨m294.to ⟨il,il,il,il,il,il,il,il,il,trivial⟩,?_⟩
    refine so 9 ?_
    refine ecb U Tryz.func20 rfl m294 (rsme x.1 x.2 _ _ _ _ _ _ _ _ _ _ _ _ _ _ _ (hPB x (List.mem_of_getElem? hes)).1 (hPB x (List.mem_of_getElem? hes)).2 ((m294.rd (i := 601) rfl).any) ((m294.rd (i := 602) rfl).any) ((m294.rd (i := 603) rfl).any) ((m294.rd (i := 604) rfl).any) ((m294.rd (i := 605) rfl).any) ((m294.rd (i := 606) rfl).any)) fun Y w296 U m297 =>?_
    refine ⟨m297.to ⟨il,il,il,il,il,il,il,il,il,trivial⟩,?_⟩
    refine goA hP284 [10,11] 2 1023 4095 U (m297.to ⟨il,il,il,il,il,il,il,il,il,trivial⟩) (.neqB rfl rfl U4<|.move rfl .nil) fun Y U =>?_
    refine bc U 131 ?_ ?_
    · intro hb _; exact absurd hb (by rw [samPE]; decide)
    clear U; intro _ U
    refine goR hP284 [12,13,14,15,17,18,19,20] [13,15,18,20] 8 4095 2031615 U (m297.to ⟨il,il,il,il,il,il,il,il,il,trivial⟩) (.p (fun _ _ h_ => y_idxA h_ rfl rfl U71 fct13 0 rfl (by decide) (off := 0) rfl)<|.loadBR hh (i := 607) rfl rfl U51 rfl fct13 (by simp) (by dsimp only [List.drop,List.take] <;> rfl)<|.p (fun _ _ h_ => y_idxA h_ rfl rfl U71 fct13 1 rfl (by decide) (off := 11) rfl)<|.loadBR hh (i := 607) rfl rfl U51 rfl fct13 (by simp) (by dsimp only [List.drop,List.take] <;> rfl)<|.p (fun _ _ h_ => y_idxA h_ rfl rfl U71 fct13 0 rfl (by decide) (off := 0) rfl)<|.loadBR hh (i := 607) rfl rfl U51 rfl fct13 (by simp) (by dsimp only [List.drop,List.take] <;> rfl)<|.p (fun _ _ h_ => y_idxA h_ rfl rfl U71 fct13 1 rfl (by decide) (off := 11) rfl)<|.loadBR hh (i := 607) rfl rfl U51 rfl fct13 (by simp) (by dsimp only [List.drop,List.take] <;> rfl) .nil) fun Y U =>?_
    refine stepE_only 16 rfl (by kernel_rfl) (wantedG U rfl rfl rfl rfl) (fun K hK =>?_)
    refine e_call U Tryz.func36 rfl rfl rfl rfl (mpre x.1 x.2 _ _ _ _ _ _ _ _ _ _ _ _ _ _ _ (hPB x (List.mem_of_getElem? hes)).1 (hPB x (List.mem_of_getElem? hes)).2 ((m297.rd (i := 601) rfl).any) ((m297.rd (i := 603) rfl).any) ((m297.rd (i := 604) rfl).any) ((m297.rd (i := 606) rfl).any)) ?_
    rintro e w310 ⟨rfl,hb310⟩
    have m311 := m297.later hb310
    refine ⟨_,rfl,?_⟩; intro Y U
    refine hK _ _ (m311.to ⟨il,il,il,il,il,il,il,il,il,trivial⟩) ?_; clear hK K
    refine stepE_only 21 rfl (by kernel_rfl) (wantedG U rfl rfl rfl rfl) (fun K hK =>?_)
    refine e_call U Tryz.func37 rfl rfl rfl rfl (rpre x.1 x.2 _ _ _ _ _ _ _ _ _ _ _ _ _ _ _ (hPB x (List.mem_of_getElem? hes)).1 (hPB x (List.mem_of_getElem? hes)).2 ((m311.rd (i := 601) rfl).any) ((m311.rd (i := 603) rfl).any) ((m311.rd (i := 604) rfl).any) ((m311.rd (i := 606) rfl).any)) ?_
    rintro e w313 ⟨rfl,hb313⟩
    have m314 := m311.later hb313
    refine ⟨_,rfl,?_⟩; intro Y U
    refine hK _ _ (m314.to ⟨il,il,il,il,il,il,il,il,il,trivial⟩) ?_; clear hK K
    refine goA hP284 [22,23] 2 4194303 16777215 U (m314.to ⟨il,il,il,il,il,il,il,il,il,trivial⟩) (.neqB rfl rfl U4<|.pickF rfl rfl .nil) fun Y U =>?_
    refine wpAnyE_done (by kernel_rfl) ?_ _
    refine hK21 _ _ ?_
    refine bc U 143 ?_ ?_
    · intro hb _; exact absurd hb (by rw [beq_self_eq_true]; decide)
    clear U; intro _ U
    refine wcf U ?_
    refine zss (hK19 _ _ ?_)
    replace U := U.oz [114,115,116]
    refine wp_region_lit ?_
    refine goCh U (.inc (k + 1)<|.move rfl .nil) fun Y U =>?_
    refine wpList_nil ?_
    show ∃ n',n' < _ ∧ _
    exact ⟨5 - (k + 1),by omega,k + 1,_,_,by omega,rfl,U.only [114,115,116],m314.only [8]⟩
   intro hb269 U; try simp only [QQ,Qax] at hb269
   refine wcf U ?_
   refine wp_exit ?_
   refine hK16 _ _ ?_
   refine regS U (.assign rfl .nil) fun Y U =>?_
   refine rt1 U ?_
   exact ⟨rfl,m267.below⟩
 refine wsk fun K22 hK22 =>?_
 have m323 := m116.oz [1,2,8,9,13,14,41,42,43]
 refine region_p 6 (B := [(1,_),(2,_),(8,_),(9,_),(13,_),(14,_),(41,_),(42,_),(43,_)]) (m323.to ⟨il,il,il,il,il,il,il,il,il,trivial⟩) m323 (by kernel_rfl) (fun w324 hP324 m324 =>?_); clear m323
 refine goR hP324 [0,2,3,4,5] [5] 5 0 61 U (m324.to ⟨il,il,il,il,il,il,il,il,il,trivial⟩) (.move rfl<|.move rfl<|.nilCheck rfl<|.fa 0 rfl U32<|.lb hh 1 U30 rfl rfl rfl .nil) fun Y U =>?_
 refine so 1 ?_
 refine ecl U Tryz.func33 rfl (replay_r ds _ _ _ _ ((m324.rd (i := 8) rfl).any) hdb (by omega)) ?_
 rintro e w330 ⟨p330,c330,rfl,hd330,hb330⟩
 have m331 := m324.callF 400 rfl hb330 hd330
 refine ⟨_,rfl,?_⟩; intro Y U
 refine ⟨m331.to ⟨il,il,il,il,il,il,il,il,il,trivial⟩,?_⟩
 refine se 6 ?_
 refine ecb U Tryz.func16 rfl m331 (rsall_t (rrL ds) _ _ _ _ _ ((m331.rd (i := 400) rfl).any) ((m331.rd (i := 2) rfl).any) (fun y hy => volS_B (hRV y hy) (by omega)) (by omega)) fun Y w333 U m334 =>?_
 refine goB hP324 [7] 1 127 255 U (.not rfl .nil) fun Y U =>?_
 refine wpAnyE_done (by kernel_rfl) ?_ _
 refine hK22 _ _ ?_
 refine wcf U ?_
 refine wp_skip ?_
 show K13 _ _
 exact hC13 _ _ ⟨_,U.only [2,3,9],m334.only [9,41,42,43,13,14]⟩
end
section
abbrev cmdS : List Shp := [.i .i64,.i .i64,.i .i64,.i .i64,.i .i64,.ns .i64,.i .i64,.i .i64,.i .i64,.l [.i .i64,.ns .u8]]
abbrev volS : List Shp := [.i .i64,.i .i64,.i .i64,.i .i64,.ns .i64,.i .i64,.i .i64,.bo,.i .i64,.ns .i64,.l [.i .i64,.l [.i .i64,.ns .u8]]]
theorem fitsIt : Fits Tryz.prog 59 [.i .i64,.ns .u8] := .mk (sss := [[.i .i64],[.ns .u8]]) U59 (by kernel_rfl) rfl (.cons rfl (by kernel_rfl) (.int U3) (.cons rfl (by kernel_rfl) (.nums U22 U5 (by kernel_rfl) (by kernel_rfl)) (.nil _)))
theorem fitsCmd : Fits Tryz.prog 38 cmdS := .mk (sss := [[.i .i64],[.i .i64],[.i .i64],[.i .i64],[.i .i64],[.ns .i64],[.i .i64],[.i .i64],[.i .i64],[.l [.i .i64,.ns .u8]]]) U38 (by kernel_rfl) rfl (.cons rfl (by kernel_rfl) (.int U3) (.cons rfl (by kernel_rfl) (.int U3) (.cons rfl (by kernel_rfl) (.int U3) (.cons rfl (by kernel_rfl) (.int U3) (.cons rfl (by kernel_rfl) (.int U3) (.cons rfl (by kernel_rfl) (.nums U35 U3 (by kernel_rfl) (by kernel_rfl)) (.cons rfl (by kernel_rfl) (.int U3) (.cons rfl (by kernel_rfl) (.int U2) (.cons rfl (by kernel_rfl) (.int U3) (.cons rfl (by kernel_rfl) (.rows U36 fitsIt (by kernel_rfl) (by decide) (by kernel_rfl)) (.nil _)))))))))))
theorem fitsCmds : Fits Tryz.prog 24 [.l cmdS] := .rows U24 fitsCmd (by kernel_rfl) (by decide) (by kernel_rfl)
theorem fitsWr : Fits Tryz.prog 103 [.i .i64,.l [.i .i64,.ns .u8]] := .mk (sss := [[.i .i64],[.l [.i .i64,.ns .u8]]]) U103 (by kernel_rfl) rfl (.cons rfl (by kernel_rfl) (.int U2) (.cons rfl (by kernel_rfl) (.rows U36 fitsIt (by kernel_rfl) (by decide) (by kernel_rfl)) (.nil _)))
theorem fitsVol : Fits Tryz.prog 51 volS := .mk (sss := [[.i .i64],[.i .i64],[.i .i64],[.i .i64],[.ns .i64],[.i .i64],[.i .i64],[.bo],[.i .i64],[.ns .i64],[.l [.i .i64,.l [.i .i64,.ns .u8]]]]) U51 (by kernel_rfl) rfl (.cons rfl (by kernel_rfl) (.int U3) (.cons rfl (by kernel_rfl) (.int U3) (.cons rfl (by kernel_rfl) (.int U3) (.cons rfl (by kernel_rfl) (.int U3) (.cons rfl (by kernel_rfl) (.nums U35 U3 (by kernel_rfl) (by kernel_rfl)) (.cons rfl (by kernel_rfl) (.int U3) (.cons rfl (by kernel_rfl) (.int U3) (.cons rfl (by kernel_rfl) (.bool U4) (.cons rfl (by kernel_rfl) (.int U2) (.cons rfl (by kernel_rfl) (.nums U48 U2 (by kernel_rfl) (by kernel_rfl)) (.cons rfl (by kernel_rfl) (.rows U49 fitsWr (by kernel_rfl) (by decide) (by kernel_rfl)) (.nil _))))))))))))
theorem it_formB {r : List D} (h : DOkL [.i .i64,.ns .u8] r) : ∃ x : Int × List Int,r = itD x ∧ BytesL x.2 := by
 obtain ⟨_,_,rfl,h0,h⟩ := h.cons_out
 obtain ⟨_,_,rfl,h1,h⟩ := h.cons_out
 obtain rfl := h.nil_out
 obtain ⟨z0,rfl,-⟩ := h0.i_out
 obtain ⟨zs,rfl,hl,hz⟩ := h1.ns_out
 exact ⟨(z0,zs),rfl,fun z hz9 => bounds_u8 (hz z hz9)⟩
theorem wr_formB {r : List D} (h : DOkL [.i .i64,.l [.i .i64,.ns .u8]] r) : ∃ x : Int × List (Int × List Int),r = wrD x ∧ (x.2.length ≤ 140737488351232 ∧ ∀ e ∈ x.2,BytesL e.2) := by
 obtain ⟨_,_,rfl,h0,h⟩ := h.cons_out
 obtain ⟨_,_,rfl,h1,h⟩ := h.cons_out
 obtain rfl := h.nil_out
 obtain ⟨z0,rfl,-⟩ := h0.i_out
 obtain ⟨rows,rfl,hl,hr⟩ := h1.l_out
 obtain ⟨its,rfl,hits⟩ := rows_map (fun r hr' => it_formB (hr r hr'))
 exact ⟨(z0,its),rfl,by rw [List.length_map] at hl; unfold reachBytes at hl; exact hl,hits⟩
theorem cmd_formB {r : List D} (h : DOkL cmdS r) : ∃ c : Cm,r = cmD c ∧ (c.its.length ≤ 140737488351232 ∧ ∀ e ∈ c.its,BytesL e.2) := by
 obtain ⟨_,_,rfl,h0,h⟩ := h.cons_out
 obtain ⟨_,_,rfl,h1,h⟩ := h.cons_out
 obtain ⟨_,_,rfl,h2,h⟩ := h.cons_out
 obtain ⟨_,_,rfl,h3,h⟩ := h.cons_out
 obtain ⟨_,_,rfl,h4,h⟩ := h.cons_out
 obtain ⟨_,_,rfl,h5,h⟩ := h.cons_out
 obtain ⟨_,_,rfl,h6,h⟩ := h.cons_out
 obtain ⟨_,_,rfl,h7,h⟩ := h.cons_out
 obtain ⟨_,_,rfl,h8,h⟩ := h.cons_out
 obtain ⟨_,_,rfl,h9,h⟩ := h.cons_out
 obtain rfl := h.nil_out
 obtain ⟨z0,rfl,-⟩ := h0.i_out
 obtain ⟨z1,rfl,-⟩ := h1.i_out
 obtain ⟨z2,rfl,-⟩ := h2.i_out
 obtain ⟨z3,rfl,-⟩ := h3.i_out
 obtain ⟨z4,rfl,-⟩ := h4.i_out
 obtain ⟨z6,rfl,-⟩ := h6.i_out
 obtain ⟨z7,rfl,-⟩ := h7.i_out
 obtain ⟨z8,rfl,-⟩ := h8.i_out
 obtain ⟨pl,rfl,-,-⟩ := h5.ns_out
 obtain ⟨rows,rfl,hl,hr⟩ := h9.l_out
 obtain ⟨its,rfl,hits⟩ := rows_map (fun r hr' => it_formB (hr r hr'))
 exact ⟨⟨z0,z1,z2,z3,z4,pl,z6,z7,z8,its⟩,rfl,by rw [List.length_map] at hl; unfold reachBytes at hl; exact hl,hits⟩
theorem openV {S : Nat → Prop} {w : World} {vs : List Value} {ds : List D} (h : RdL S w vs ds) (q : DOkL [.i .i64,.i .i64,.i .i64,.i .i64,.ns .i64,.i .i64,.i .i64,.bo,.i .i64,.ns .i64,.l [.i .i64,.l [.i .i64,.ns .u8]]] ds) : ∃ (x0 : Int) (x1 : Int) (x2 : Int) (x3 : Int) (x4 : List Int) (p4 : Option Addr) (c4 : Nat) (x5 : Int) (x6 : Int) (x7 : Bool) (x8 : Int) (x9 : List Int) (p9 : Option Addr) (c9 : Nat) (x10 : List (List D)) (p10 : Option Addr) (c10 : Nat),vs = [.int .i64 x0,.int .i64 x1,.int .i64 x2,.int .i64 x3,.slice p4 x4.length c4,.int .i64 x5,.int .i64 x6,.bool x7,.int .i64 x8,.slice p9 x9.length c9,.slice p10 x10.length c10] ∧ (Lit.int .i64 x0).wf = true ∧ (Lit.int .i64 x1).wf = true ∧ (Lit.int .i64 x2).wf = true ∧ (Lit.int .i64 x3).wf = true ∧ Rd S w (.slice p4 x4.length c4) (.ns .i64 x4) ∧ x4.length ≤ reachBytes ∧ (∀ z ∈ x4,(Lit.int .i64 z).wf = true) ∧ (Lit.int .i64 x5).wf = true ∧ (Lit.int .i64 x6).wf = true ∧ (Lit.int .i64 x8).wf = true ∧ Rd S w (.slice p9 x9.length c9) (.ns .i64 x9) ∧ x9.length ≤ reachBytes ∧ (∀ z ∈ x9,(Lit.int .i64 z).wf = true) ∧ Rd S w (.slice p10 x10.length c10) (.l ([.i .i64,.l [.i .i64,.ns .u8]] : List Shp).length x10) ∧ x10.length ≤ reachBytes ∧ (∀ r ∈ x10,DOkL [.i .i64,.l [.i .i64,.ns .u8]] r) := by
 obtain ⟨d0,r0,rfl,e0,q0⟩ := q.cons_out
 obtain ⟨v0,vs0,rfl,h0,hh0⟩ := h.cons_inv
 obtain ⟨x0,rfl,f0⟩ := e0.i_out; obtain rfl := h0.v_out
 obtain ⟨d1,r1,rfl,e1,q1⟩ := q0.cons_out
 obtain ⟨v1,vs1,rfl,h1,hh1⟩ := hh0.cons_inv
 obtain ⟨x1,rfl,f1⟩ := e1.i_out; obtain rfl := h1.v_out
 obtain ⟨d2,r2,rfl,e2,q2⟩ := q1.cons_out
 obtain ⟨v2,vs2,rfl,h2,hh2⟩ := hh1.cons_inv
 obtain ⟨x2,rfl,f2⟩ := e2.i_out; obtain rfl := h2.v_out
 obtain ⟨d3,r3,rfl,e3,q3⟩ := q2.cons_out
 obtain ⟨v3,vs3,rfl,h3,hh3⟩ := hh2.cons_inv
 obtain ⟨x3,rfl,f3⟩ := e3.i_out; obtain rfl := h3.v_out
 obtain ⟨d4,r4,rfl,e4,q4⟩ := q3.cons_out
 obtain ⟨v4,vs4,rfl,h4,hh4⟩ := hh3.cons_inv
 obtain ⟨x4,rfl,f4,g4⟩ := e4.ns_out; obtain ⟨p4,c4,rfl,k4⟩ := h4.ns_shape
 obtain ⟨d5,r5,rfl,e5,q5⟩ := q4.cons_out
 obtain ⟨v5,vs5,rfl,h5,hh5⟩ := hh4.cons_inv
 obtain ⟨x5,rfl,f5⟩ := e5.i_out; obtain rfl := h5.v_out
 obtain ⟨d6,r6,rfl,e6,q6⟩ := q5.cons_out
 obtain ⟨v6,vs6,rfl,h6,hh6⟩ := hh5.cons_inv
 obtain ⟨x6,rfl,f6⟩ := e6.i_out; obtain rfl := h6.v_out
 obtain ⟨d7,r7,rfl,e7,q7⟩ := q6.cons_out
 obtain ⟨v7,vs7,rfl,h7,hh7⟩ := hh6.cons_inv
 obtain ⟨x7,rfl⟩ := e7.bo_out; obtain rfl := h7.v_out
 obtain ⟨d8,r8,rfl,e8,q8⟩ := q7.cons_out
 obtain ⟨v8,vs8,rfl,h8,hh8⟩ := hh7.cons_inv
 obtain ⟨x8,rfl,f8⟩ := e8.i_out; obtain rfl := h8.v_out
 obtain ⟨d9,r9,rfl,e9,q9⟩ := q8.cons_out
 obtain ⟨v9,vs9,rfl,h9,hh9⟩ := hh8.cons_inv
 obtain ⟨x9,rfl,f9,g9⟩ := e9.ns_out; obtain ⟨p9,c9,rfl,k9⟩ := h9.ns_shape
 obtain ⟨d10,r10,rfl,e10,q10⟩ := q9.cons_out
 obtain ⟨v10,vs10,rfl,h10,hh10⟩ := hh9.cons_inv
 obtain ⟨x10,rfl,f10,g10⟩ := e10.l_out; obtain ⟨p10,c10,rfl,k10⟩ := h10.l_shape
 obtain rfl := q10.nil_out
 obtain rfl := hh10.nil_inv
 exact ⟨x0,x1,x2,x3,x4,p4,c4,x5,x6,x7,x8,x9,p9,c9,x10,p10,c10,rfl,f0,f1,f2,f3,h4,f4,g4,f5,f6,f8,h9,f9,g9,h10,f10,g10⟩
end
end Go.Proofs.YtkehgingagggaaaGreat.K
