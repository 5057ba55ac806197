/- General laws of walks. -/
import Derived.Test.YtkehgingagggaaaGreatG24
namespace Go.Proofs.YtkehgingagggaaaGreat.K
open Go.ChangeShapes Go.WideShapes Go.ChangeAt Go.RowKit
set_option linter.unusedVariables false
set_option linter.unusedSimpArgs false
section
theorem fl59mcm : flatS Tryz.prog 59 [.int .i64 0,.slice none 0 0] = true := by kernel_rfl
def CmB (x : Cm) : Prop := x.pl.length ≤ 1000000 ∧ x.its.length ≤ 1000000 ∧ ∀ e ∈ x.its,e.2.length ≤ 1000000 ∧ BytesL e.2
def CmA (x : Cm) : Prop := x.pl.length ≤ 1000 ∧ x.its.length ≤ 1000 ∧ ∀ e ∈ x.its,e.2.length ≤ 1000000 ∧ BytesL e.2
theorem CmA.b {x : Cm} (h : CmA x) : CmB x := ⟨by have := h.1; omega,by have := h.2.1; omega,h.2.2⟩
theorem csb0 {cs : List Cm} {raw : Cm} (h : CsR cs) (hr : CmA raw) : ∀ x ∈ cs ++ [raw],CmA x := fun x hx => by
 rcases List.mem_append.1 hx with hx | hx
 · have := (h x hx).1
   exact ⟨by have := this.pl; omega,by have := this.il; omega,(h x hx).2⟩
 rw [List.mem_singleton.1 hx]; exact hr
def bD9 (b : List Int) : List D := [.ns .u8 b]
theorem bD9_get {zs : List (List Int)} {j : Nat} {z : List Int} (h : zs[j]? = some z) : (zs.map bD9)[j]? = some [.ns .u8 z] := by rw [List.getElem?_map,h]; rfl
theorem zs_ok {a b c : List Int} {Q : List Int → Prop} (ha : Q a) (hb : Q b) (hc : Q c) : ∀ z ∈ [a,b,c],Q z := fun z hz => by
 simp only [List.mem_cons,List.not_mem_nil,or_false] at hz
 rcases hz with rfl | rfl | rfl
 · exact ha
 · exact hb
 exact hc
theorem set_by {l : List Int} {j : Nat} {v : Int} (h : BytesL l) (hv : 0 ≤ v ∧ v ≤ 255) : BytesL (l.set j v) := fun z hz => by
 rcases List.mem_or_eq_of_mem_set hz with h1 | h1
 · exact h z h1
 rw [h1]; exact hv
theorem u8w_bd (z : Int) : 0 ≤ IntKind.u8.wrap z ∧ IntKind.u8.wrap z ≤ 255 := by
 show 0 ≤ z % 256 ∧ z % 256 ≤ 255
 omega
set_option maxRecDepth 100000
set_option maxHeartbeats 4000000
theorem rreadCmd_y (X : Cx) (x : Cm) (hR : CmdR x) (hby : ∀ e ∈ x.its,BytesL e.2) (p : Option Addr) (c : Nat) (w0 : World) (m0 : MemOk X w0 [(1,.dat (.slice p (cmE x).length c) (.ns .u8 (cmE x)))] w0) :
   Calls Tryz.prog 29 #[.slice p (cmE x).length c] w0 fun e w' => ∃ (pp : Option Addr) (cp : Nat) (pi : Option Addr) (ci : Nat),e = .returned (.tuple #[.agg #[.int .i64 x.kd,.int .i64 x.vo,.int .i64 x.bl,.int .i64 x.sz,.int .i64 x.pe,.slice pp x.pl.length cp,.int .i64 x.to,.int .i64 x.at0,.int .i64 x.ix,.slice pi (x.its.map itD).length ci],.int .i64 0]) ∧ MemOk X w0 [(1,.dat (.slice pp x.pl.length cp) (.ns .i64 x.pl)),(2,.dat (.slice pi (x.its.map itD).length ci) (.l 2 (x.its.map itD)))] w' :=
 (rreadCmd_x X x.kd x.vo x.bl x.sz x.pe x.to x.at0 x.ix x.pl x.its p c w0 (hR.ok hby) m0).mono fun e w' ⟨pp,cp,pi,ci,he,hm⟩ => ⟨pp,cp,pi,ci,by rw [List.length_map]; exact he,hm⟩
theorem cutF {p q : Prop} (h : p → q) (hp : p) : q := h hp
theorem cmds_walk (raw : Cm) (y0 y1 : List Int) (n3 n4 n5 n6 : Int) (p0 q0 q1 q2 : Option Addr) (c0 d0 g1 g2 : Nat) (w0 : World) (hn3 : 0 ≤ n3 ∧ n3 ≤ 65535) (hn4 : 0 ≤ n4 ∧ n4 ≤ 255) (hn5 : 0 ≤ n5 ∧ n5 ≤ 255) (hn6 : -9223372036854775808 ≤ n6 ∧ n6 ≤ 9223372036854775807) (h0 : Rd (fun _ => True) w0 (.slice p0 raw.pl.length c0) (.ns .i64 raw.pl)) (h0b : Rd (fun _ => True) w0 (.slice q0 (raw.its.map itD).length d0) (.l 2 (raw.its.map itD))) (h1 : Rd (fun _ => True) w0 (.slice q1 y0.length g1) (.ns .u8 y0)) (h2 : Rd (fun _ => True) w0 (.slice q2 y1.length g2) (.ns .u8 y1)) (hrl : raw.its.length ≤ 140737488351232) (hrb : ∀ e ∈ raw.its,BytesL e.2) (hb0 : ∀ j,j < y0.length → 0 ≤ y0.getD j 0 ∧ y0.getD j 0 ≤ 255) (hb1 : BytesL y1) :
   Calls Tryz.prog 4 #[.agg #[.int .i64 raw.kd,.int .i64 raw.vo,.int .i64 raw.bl,.int .i64 raw.sz,.int .i64 raw.pe,.slice p0 raw.pl.length c0,.int .i64 raw.to,.int .i64 raw.at0,.int .i64 raw.ix,.slice q0 (raw.its.map itD).length d0],.slice q1 y0.length g1,.slice q2 y1.length g2,.int .u16 n3,.int .u8 n4,.int .u8 n5,.int .i64 n6] w0 fun e w' => e = .returned (.bool true) ∧ Below w0.heap.size w0 w' := by
 refine ent7 Tryz.func4 rfl Tryz.ntmps4 fun Y U =>?_
 have m0 := (((((MemOk.start (fun _ => True) w0).dat 11 rfl (h1.cast (fun _ _ => (free_nil (fun _ => trivial))))).dat 12 rfl (h2.cast (fun _ _ => (free_add rfl (free_nil (fun _ => trivial)))))).dat 41 rfl (h0.cast (fun _ _ => (free_add rfl (free_add rfl (free_nil (fun _ => trivial))))))).dat 42 rfl (h0b.cast (fun _ _ => (free_add rfl (free_add rfl (free_add rfl (free_nil (fun _ => trivial))))))))
 refine zsr fun K0 hK0 =>?_
 refine plz (e_box U m0 300 (cs := [_,_,_,_,_,_,_,_,_,_]) rfl rfl rfl fun g1 Y w2 U m2 _ _ =>?_)
 refine gz hK0 U (.assign rfl .nil) fun Y U =>?_
 refine wsk fun K1 hK1 =>?_
 refine zsr fun K2 hK2 =>?_
 refine plz (ecb U Tryz.func8 rfl m2 (known17 _) fun Y w4 U m5 =>?_)
 refine gz hK2 U (.not rfl .nil) fun Y U =>?_
 refine wcf U ?_
 refine zss (hK1 _ _ ?_)
 refine wsk fun K3 hK3 =>?_
 refine zsr fun K4 hK4 =>?_
 refine goCh U (.loadBR m5 (i := 300) rfl rfl U38 rfl fct18 (by simp) (by dsimp only [List.drop,List.take] <;> rfl) .nil) fun Y U =>?_
 refine plz (ecl U Tryz.func11 rfl (smallC_any raw.kd raw.vo raw.bl raw.sz raw.pe raw.to raw.at0 raw.ix raw.pl raw.its _ _ _ _ _ _ ((m5.rd (i := 41) rfl).any) ((m5.rd (i := 42) rfl).any) hrl) ?_)
 rintro e w10 ⟨sc,rfl,hsc,hb10⟩
 have m11 := m5.later hb10
 refine ⟨_,rfl,?_⟩; intro Y U
 refine goCh U (.not rfl<|.move rfl .nil) fun Y U =>?_
 refine bc U 34 ?_ ?_
 ·
  intro hb15 U; try simp only [QQ,Qax] at hb15
  have hsc0 := hb15
  refine gz hK4 U (.sk<|.sk<|.sk<|.pickT rfl rfl<|.move rfl<|.sk<|.sk<|.sk<|.pickT rfl rfl<|.nil) fun Y U =>?_
  refine wct U ?_
  replace U := U.oz [1,2,3,4,5,6,7,14]
  refine regS U (.assign rfl .nil) fun Y U =>?_
  refine rt1 U ?_
  exact ⟨rfl,m11.below⟩
 intro hb15 U; try simp only [QQ,Qax] at hb15
 have hsc9 := hsc (by simp_all)
 have hi12 := hsc9.2.1
 refine goCh U (.moveZ rfl<|.lenZ rfl U22<|.gtrZ rfl rfl<|.pickF rfl rfl<|.move rfl .nil) fun Y U =>?_
 refine bc U 39 ?_ ?_
 ·
  intro hb32 U; try simp only [QQ,Qax] at hb32
  refine gz hK4 U (.sk<|.sk<|.sk<|.pickT rfl rfl<|.nil) fun Y U =>?_
  refine wct U ?_
  replace U := U.oz [1,2,3,4,5,6,7,14]
  refine regS U (.assign rfl .nil) fun Y U =>?_
  refine rt1 U ?_
  exact ⟨rfl,m11.below⟩
 intro hb32 U; try simp only [QQ,Qax] at hb32
 have hl40 : y0.length ≤ 40 := by have := hb32; first | omega | (simp at this; omega)
 refine gz hK4 U (.moveZ rfl<|.lenZ rfl U22<|.gtrZ rfl rfl<|.pickF rfl rfl<|.nil) fun Y U =>?_
 refine bc U 43 ?_ ?_
 ·
  intro hb43 U; try simp only [QQ,Qax] at hb43
  refine wct U ?_
  replace U := U.oz [1,2,3,4,5,6,7,14]
  refine regS U (.assign rfl .nil) fun Y U =>?_
  refine rt1 U ?_
  exact ⟨rfl,m11.below⟩
 intro hb43 U; try simp only [QQ,Qax] at hb43
 have hl60 : y1.length ≤ 60 := by have := hb43; first | omega | (simp at this; omega)
 have hrB : CmA raw := ⟨by have := hsc9.1; omega,by omega,fun e he => ⟨by have := hsc9.2.2 e he; omega,hrb e he⟩⟩
 refine wcf U ?_
 refine zss (hK3 _ _ ?_)
 refine wsk fun K5 hK5 =>?_
 refine cutF (fun (hC5 : ∀ (a : Act) (w : World),(∃ (p8 : Option Addr) (c8 : Nat) (cs : List Cm),CsR cs ∧ 4 * cs.length ≤ 40 ∧ Has 180 [(2,.slice q2 y1.length g2),(3,.int .u16 n3),(4,.int .u8 n4),(5,.int .u8 n5),(6,.int .i64 n6),(15,.slice p8 ((cs ++ [raw]).map cmD).length c8)] a ∧ MemOk (cx (fun _ => True) w0) w0 [(12,.dat (.slice q2 y1.length g2) (.ns .u8 y1)),(8,.row (.slice p8 (((cs ++ [raw])).map cmD).length c8) 38 10 (((cs ++ [raw])).map cmD))] w) → K5 a w) =>?_) ?_
 ·
  replace U := U.oz [1,2,3,4,5,6,7,14]
  have m562 := m11.oz [11,12,41,42,300]
  refine region_p 6 (B := [(11,_),(12,_),(41,_),(42,_),(300,_)]) (m562.to ⟨il,il,il,il,il,trivial⟩) m562 (by kernel_rfl) (fun w563 hP563 m563 =>?_); clear m562
  refine goR hP563 [0,2] [2] 2 0 5 U (m563.to ⟨il,il,il,il,il,trivial⟩) (.move rfl<|.loadBR hh (i := 300) rfl rfl U38 rfl fct18 (by simp) (by dsimp only [List.drop,List.take] <;> rfl) .nil) fun Y U =>?_
  refine dtw 1 3 ?_ ?_
  ·
   refine ecl U Tryz.func10 rfl (scmds_r y0 _ _ _ ((m563.rd (i := 11) rfl).any) (by omega) hb0) ?_
   rintro e w566 ⟨cs,p566,c566,rfl,hcl,hcR,ho566,hb566⟩
   have m567 := m563.callR 301 hb566 (ho566.cast (fun b h => ⟨h.1.elim False.elim .inr,h.2⟩))
   refine ⟨_,rfl,?_⟩; intro Y U
   refine ⟨fun _ => (m567.to ⟨il,il,il,il,il,trivial⟩),?_⟩
   refine so 3 ?_
   refine e_litR U m567 302 (mm := 10) rfl (.cons rfl rfl (.cons (.v _) (.cons (.v _) (.cons (.v _) (.cons (.v _) (.cons (.v _) (.cons (m567.rd (i := 41) rfl) (.cons (.v _) (.cons (.v _) (.cons (.v _) (.cons (m567.rd (i := 42) rfl) .nil)))))))))) .nil) U24 fct27 rfl rfl rfl rfl rfl fun g569 Y w570 U m570 =>?_
   refine ⟨m570.to ⟨il,il,il,il,il,trivial⟩,?_⟩
   have m572 := m570.freezeR 302 rfl
   refine so 4 ?_
   refine e_appR U m572 301 rfl rfl rfl (m572.rd (i := 302) rfl) U24 fct27 rfl rfl (by decide) (by simp only [List.length_map,List.length_append,List.length_singleton,List.length_cons,List.length_nil]; omega) rfl fun p571 c571 Y w573 U m573 =>?_
   refine ⟨m573.to ⟨il,il,il,il,il,trivial⟩,?_⟩
   refine goA hP563 [5] 1 31 63 U (m573.to ⟨il,il,il,il,il,trivial⟩) (.assign rfl .nil) fun Y U =>?_
   refine wpAnyE_done (by kernel_rfl) ?_ _
   have hE : (cs.map cmD) ++ [[.v (.int .i64 raw.kd),.v (.int .i64 raw.vo),.v (.int .i64 raw.bl),.v (.int .i64 raw.sz),.v (.int .i64 raw.pe),.ns .i64 raw.pl,.v (.int .i64 raw.to),.v (.int .i64 raw.at0),.v (.int .i64 raw.ix),.l 2 (raw.its.map itD)]] = (cs ++ [raw]).map cmD := by rw [List.map_append]; rfl
   rw [hE] at m573 U
   show K5 _ _
   exact hC5 _ _ ⟨_,_,cs,hcR,by omega,U.only [2,3,4,5,6,15],m573.ren [(12,12),(8,301)] (by decide)⟩
  refine e_litR U m563 301 (mm := 10) rfl (.cons rfl rfl (.cons (.v _) (.cons (.v _) (.cons (.v _) (.cons (.v _) (.cons (.v _) (.cons (m563.rd (i := 41) rfl) (.cons (.v _) (.cons (.v _) (.cons (.v _) (.cons (m563.rd (i := 42) rfl) .nil)))))))))) .nil) U24 fct27 rfl rfl rfl rfl rfl fun g575 Y w576 U m576 =>?_
  refine ⟨fun _ => (m576.to ⟨il,il,il,il,il,trivial⟩),?_⟩
  refine so 1 ?_
  refine ecl U Tryz.func10 rfl (scmds_r y0 _ _ _ ((m576.rd (i := 11) rfl).any) (by omega) hb0) ?_
  rintro e w577 ⟨cs,p577,c577,rfl,hcl,hcR,ho577,hb577⟩
  have m578 := m576.callR 302 hb577 (ho577.cast (fun b h => ⟨h.1.elim False.elim .inr,h.2⟩))
  refine ⟨_,rfl,?_⟩; intro Y U
  refine ⟨m578.to ⟨il,il,il,il,il,trivial⟩,?_⟩
  have m581 := m578.freezeR 301 rfl
  refine so 4 ?_
  refine e_appR U m581 302 rfl rfl rfl (m581.rd (i := 301) rfl) U24 fct27 rfl rfl (by decide) (by simp only [List.length_map,List.length_append,List.length_singleton,List.length_cons,List.length_nil]; omega) rfl fun p580 c580 Y w582 U m582 =>?_
  refine ⟨m582.to ⟨il,il,il,il,il,trivial⟩,?_⟩
  refine goA hP563 [5] 1 31 63 U (m582.to ⟨il,il,il,il,il,trivial⟩) (.assign rfl .nil) fun Y U =>?_
  refine wpAnyE_done (by kernel_rfl) ?_ _
  have hE : (cs.map cmD) ++ [[.v (.int .i64 raw.kd),.v (.int .i64 raw.vo),.v (.int .i64 raw.bl),.v (.int .i64 raw.sz),.v (.int .i64 raw.pe),.ns .i64 raw.pl,.v (.int .i64 raw.to),.v (.int .i64 raw.at0),.v (.int .i64 raw.ix),.l 2 (raw.its.map itD)]] = (cs ++ [raw]).map cmD := by rw [List.map_append]; rfl
  rw [hE] at m582 U
  show K5 _ _
  exact hC5 _ _ ⟨_,_,cs,hcR,by omega,U.only [2,3,4,5,6,15],m582.ren [(12,12),(8,302)] (by decide)⟩
 clear U m11
 rintro Y w46 ⟨p8,c8,cs,hcR,hcl,U,m46⟩
 refine hK5 _ _ ?_
 refine wsk fun K6 hK6 =>?_
 obtain ⟨bx,hbx⟩ : ∃ bx,(cs ++ [raw])[0]? = some bx := ⟨_,List.getElem?_eq_getElem (by simp)⟩
 have hBx : CmA bx := csb0 hcR hrB bx (List.mem_of_getElem? hbx)
 have hBl := hBx.1
 have hBi := hBx.2.1
 refine wp_region_lit ?_
 refine goCh U (.move rfl .nil) fun Y U =>?_
 obtain ⟨gr48,cr48,hp48,m48⟩ := m46.openC (i := 8) rfl (Nat.lt_of_le_of_lt (Nat.zero_le (0)) (show 0 < ((cs ++ [raw]).map cmD).length by rw [List.length_map,List.length_append,List.length_singleton]; omega))
 revert U
 cases hp48
 intro U
 obtain ⟨vs49,hc49,hR49⟩ := m48.eltC (i := 8) rfl (0) (r := [.v (.int .i64 bx.kd),.v (.int .i64 bx.vo),.v (.int .i64 bx.bl),.v (.int .i64 bx.sz),.v (.int .i64 bx.pe),.ns .i64 bx.pl,.v (.int .i64 bx.to),.v (.int .i64 bx.at0),.v (.int .i64 bx.ix),.l 2 (bx.its.map itD)]) (cmD_get hbx)
 revert U
 rcases hR49 with _ | ⟨hd49_0,_ | ⟨hd49_1,_ | ⟨hd49_2,_ | ⟨hd49_3,_ | ⟨hd49_4,_ | ⟨hd49_5,_ | ⟨hd49_6,_ | ⟨hd49_7,_ | ⟨hd49_8,_ | ⟨hd49_9,_ | _⟩⟩⟩⟩⟩⟩⟩⟩⟩⟩
 obtain rfl := hd49_0.v_out
 clear hd49_0
 obtain rfl := hd49_1.v_out
 clear hd49_1
 obtain rfl := hd49_2.v_out
 clear hd49_2
 obtain rfl := hd49_3.v_out
 clear hd49_3
 obtain rfl := hd49_4.v_out
 clear hd49_4
 obtain ⟨p50,c50,hv50,hw50⟩ := hd49_5.ns_shape; subst hv50
 intro U
 have m50 := m48.dat 400 rfl (hd49_5.cast (fun _ h => h)); clear m48 hd49_5
 revert U
 obtain rfl := hd49_6.v_out
 clear hd49_6
 obtain rfl := hd49_7.v_out
 clear hd49_7
 obtain rfl := hd49_8.v_out
 clear hd49_8
 obtain ⟨p51,c51,hv51,hw51⟩ := hd49_9.l_shape; subst hv51
 intro U
 have m51 := m50.dat 401 rfl (hd49_9.cast (fun _ h => (free_add rfl h))); clear m50 hd49_9
 refine goCh U (.c rfl (fun _ h_ => y_idx h_ rfl rfl U24 fct18 (0) rfl (by rw [List.length_map,List.length_append,List.length_singleton]; omega))<|.c rfl (fun _ h_ => y_loadRC h_ m51 (i := 8) rfl (0) hc49 rfl U38 rfl fct18) .nil) fun Y U =>?_
 refine plz (e_alloc U m51 402 fct23 rfl fun g54 Y w55 U m55 _ _ =>?_)
 refine plz (stw U m55 402 fct18 fun w56 m56 _ =>?_)
 refine znl (hK6 _ _ ?_)
 refine wsk fun K7 hK7 =>?_
 refine cutF (fun (hC7 : ∀ (a : Act) (w : World),(∃ (bt : Cm) (B16 c8 c5 c6 : Nat) (p8 p5 p6 : Option Addr),CmB bt ∧ Has 180 [(2,.slice q2 y1.length g2),(3,.int .u16 n3),(4,.int .u8 n4),(15,.slice p8 ((cs ++ [raw]).map cmD).length c8),(16,.pointer (some ⟨B16,0,none⟩))] a ∧ MemOk (cx (fun _ => True) w0) w0 [(12,.dat (.slice q2 y1.length g2) (.ns .u8 y1)),(8,.row (.slice p8 (((cs ++ [raw])).map cmD).length c8) 38 10 (((cs ++ [raw])).map cmD)),(14,.box B16 38 [.int .i64 bt.kd,.int .i64 bt.vo,.int .i64 bt.bl,.int .i64 bt.sz,.int .i64 bt.pe,.slice p5 bt.pl.length c5,.int .i64 bt.to,.int .i64 bt.at0,.int .i64 bt.ix,.slice p6 (bt.its.map itD).length c6]),(15,.dat (.slice p5 bt.pl.length c5) (.ns .i64 bt.pl)),(16,.dat (.slice p6 (bt.its.map itD).length c6) (.l 2 (bt.its.map itD)))] w) → K7 a w) =>?_) ?_
 ·
  refine regS U (.move rfl<|.rem rfl rfl (by decide) rfl .nil) fun Y U =>?_
  refine wp_block ?_
  refine regS U (.eql rfl rfl<|.assign rfl .nil) fun Y U =>?_
  refine bc U 62 ?_ ?_
  ·
   intro hb499 U; try simp only [QQ,Qax] at hb499
   refine wct U ?_
   replace U := U.oz [2,3,4,6,15,16,53]
   refine wp_region_lit ?_
   refine goCh U (.move rfl<|.fa 0 rfl U38 .nil) fun Y U =>?_
   refine plz (st1 U m56 402 fct17 fun w503 m503 _ =>?_)
   refine wpList_nil ?_
   have m504 := m503.closeC 8 rfl
   show K7 _ _
   exact hC7 _ _ ⟨({ bx with kd := n6 } : Cm),_,_,_,_,_,_,_,hBx.b,U.only [2,3,4,15,16],m504.ren [(12,12),(8,8),(14,402),(15,400),(16,401)] (by decide)⟩
  intro hb499 U; try simp only [QQ,Qax] at hb499
  refine wcf U ?_
  replace U := U.oz [2,3,4,6,15,16,53]
  refine regS U (.eql rfl rfl<|.assign rfl .nil) fun Y U =>?_
  refine bc U 66 ?_ ?_
  ·
   intro hb508 U; try simp only [QQ,Qax] at hb508
   refine wct U ?_
   refine wp_region_lit ?_
   refine goCh U (.move rfl<|.fa 1 rfl U38 .nil) fun Y U =>?_
   refine plz (st1 U m56 402 fct17 fun w511 m511 _ =>?_)
   refine wpList_nil ?_
   have m512 := m511.closeC 8 rfl
   show K7 _ _
   exact hC7 _ _ ⟨({ bx with vo := n6 } : Cm),_,_,_,_,_,_,_,hBx.b,U.only [2,3,4,15,16],m512.ren [(12,12),(8,8),(14,402),(15,400),(16,401)] (by decide)⟩
  intro hb508 U; try simp only [QQ,Qax] at hb508
  refine wcf U ?_
  refine regS U (.eql rfl rfl<|.assign rfl .nil) fun Y U =>?_
  refine bc U 70 ?_ ?_
  ·
   intro hb515 U; try simp only [QQ,Qax] at hb515
   refine wct U ?_
   refine wp_region_lit ?_
   refine goCh U (.move rfl<|.fa 7 rfl U38 .nil) fun Y U =>?_
   refine plz (st1 U m56 402 fct22 fun w518 m518 _ =>?_)
   refine wpList_nil ?_
   have m519 := m518.closeC 8 rfl
   show K7 _ _
   exact hC7 _ _ ⟨({ bx with at0 := n6 } : Cm),_,_,_,_,_,_,_,hBx.b,U.only [2,3,4,15,16],m519.ren [(12,12),(8,8),(14,402),(15,400),(16,401)] (by decide)⟩
  intro hb515 U; try simp only [QQ,Qax] at hb515
  refine wcf U ?_
  refine regS U (.eql rfl rfl<|.assign rfl .nil) fun Y U =>?_
  refine bc U 74 ?_ ?_
  ·
   intro hb522 U; try simp only [QQ,Qax] at hb522
   refine wct U ?_
   replace U := U.oz [2,3,4,6,15,16,53]
   refine wp_region_lit ?_
   refine goCh U (.move rfl<|.fa 8 rfl U38 .nil) fun Y U =>?_
   refine plz (st1 U m56 402 fct17 fun w526 m526 _ =>?_)
   refine wpList_nil ?_
   have m527 := m526.closeC 8 rfl
   show K7 _ _
   exact hC7 _ _ ⟨({ bx with ix := n6 } : Cm),_,_,_,_,_,_,_,hBx.b,U.only [2,3,4,15,16],m527.ren [(12,12),(8,8),(14,402),(15,400),(16,401)] (by decide)⟩
  intro hb522 U; try simp only [QQ,Qax] at hb522
  refine wcf U ?_
  replace U := U.oz [2,3,4,6,15,16,53]
  refine regS U (.eql rfl rfl<|.assign rfl .nil) fun Y U =>?_
  refine bc U 78 ?_ ?_
  ·
   intro hb531 U; try simp only [QQ,Qax] at hb531
   refine wct U ?_
   refine wp_region_lit ?_
   refine goCh U (.fa 5 rfl U38<|.lb m56 402 U35 rfl rfl rfl .nil) fun Y U =>?_
   refine plz (e_app0N U m56 403 rfl rfl (m56.nums (i := 400) rfl) U35 fct16 (by decide) (by omega) rfl fun p534 c534 Y w535 U m535 =>?_)
   refine goCh U (.move rfl .nil) fun Y U =>?_
   refine plz (e_litN U m535 404 (k := .i64) rfl rfl U35 fct16 rfl rfl rfl rfl fun g537 Y w538 U m538 =>?_)
   refine plz (e_appN U m538 403 rfl rfl rfl (m538.numsO (i := 404) rfl) U35 fct16 (by decide) (by simp only [List.length_map,List.length_append,List.length_singleton,List.length_cons,List.length_nil]; omega) rfl fun p539 c539 Y w540 U m540 =>?_)
   refine goCh U (.fieldAddr (off := 5) rfl U38 rfl (s := 0) (by kernel_rfl) rfl .nil) fun Y U =>?_
   refine plz (st1 U m540 402 fct10 fun w542 m542 _ =>?_)
   refine wpList_nil ?_
   have m543 := m542.freezeN 403 rfl
   have m544 := m543.closeC 8 rfl
   show K7 _ _
   exact hC7 _ _ ⟨({ bx with pl := bx.pl ++ [n6] } : Cm),_,_,_,_,_,_,_,⟨by rw [List.length_append,List.length_singleton]; omega,hBx.b.2.1,hBx.2.2⟩,U.only [2,3,4,15,16],m544.ren [(12,12),(8,8),(14,402),(15,403),(16,401)] (by decide)⟩
  intro hb531 U; try simp only [QQ,Qax] at hb531
  refine wcf U ?_
  refine wp_region_lit ?_
  refine goCh U (.fa 9 rfl U38<|.lb m56 402 U36 rfl rfl rfl .nil) fun Y U =>?_
  have m547 := m56.nilR 403 59 2
  refine plz (e_appR U m547 403 rfl rfl rfl (m547.rd (i := 401) rfl) U36 fct5 rfl rfl (by decide) (by simp only [List.length_map,List.length_append,List.length_singleton,List.length_cons,List.length_nil]; omega) rfl fun p548 c548 Y w549 U m549 =>?_)
  refine goCh U (.move rfl<|.build rfl fct4 fl59mcm rfl (by dsimp only [setL,List.set] <;> rfl) .nil) fun Y U =>?_
  refine plz (e_litR U m549 404 (mm := 2) rfl (.cons rfl rfl (.cons (.v _) (.cons (Rd.nilN _ _ .u8 _) .nil)) .nil) U36 fct5 rfl rfl rfl rfl rfl fun g552 Y w553 U m553 =>?_)
  have m555 := m553.freezeR 404 rfl
  refine plz (e_appR U m555 403 rfl rfl rfl (m555.rd (i := 404) rfl) U36 fct5 rfl rfl (by decide) (by simp only [List.length_map,List.length_append,List.length_singleton,List.length_cons,List.length_nil]; omega) rfl fun p554 c554 Y w556 U m556 =>?_)
  refine goCh U (.fieldAddr (off := 9) rfl U38 rfl (s := 0) (by kernel_rfl) rfl .nil) fun Y U =>?_
  refine plz (st1 U m556 402 fct6 fun w558 m558 _ =>?_)
  refine wpList_nil ?_
  have m559 := m558.freezeR 403 rfl
  rw [show ([] ++ (bx.its.map itD)) ++ [[D.v (.int .i64 n6),.ns .u8 []]] = (bx.its ++ [((n6 : Int),([] : List Int))]).map itD by rw [List.map_append]; rfl] at m559
  have m560 := m559.closeC 8 rfl
  show K7 _ _
  exact hC7 _ _ ⟨({ bx with its := bx.its ++ [(n6,[])] } : Cm),_,_,_,_,_,_,_,⟨hBx.b.1,by rw [List.length_append,List.length_singleton]; omega,app_all hBx.2.2 ⟨by simp,(fun z hz => by cases hz)⟩⟩,U.only [2,3,4,15,16],m560.ren [(12,12),(8,8),(14,402),(15,400),(16,403)] (by decide)⟩
 clear U m56
 rintro Y w57 ⟨bt,B16,c8,c5,c6,p8,p5,p6,hbt,U,m57⟩
 refine hK7 _ _ ?_
 refine zsr fun K8 hK8 =>?_
 refine goCh U (.move rfl<|.loadBR m57 (i := 14) rfl rfl U38 rfl fct18 (by simp) (by dsimp only [List.drop,List.take] <;> rfl) .nil) fun Y U =>?_
 refine plz (e_litR U m57 500 (mm := 10) rfl (.cons rfl rfl (.cons (.v _) (.cons (.v _) (.cons (.v _) (.cons (.v _) (.cons (.v _) (.cons (m57.rd (i := 15) rfl) (.cons (.v _) (.cons (.v _) (.cons (.v _) (.cons (m57.rd (i := 16) rfl) .nil)))))))))) .nil) U24 fct27 rfl rfl rfl rfl rfl fun g62 Y w63 U m63 =>?_)
 have m65 := m63.freezeR 500 rfl
 refine plz (e_appR U m65 8 rfl rfl rfl (m65.rd (i := 500) rfl) U24 fct27 rfl rfl (by decide) (by simp only [List.length_map,List.length_append,List.length_singleton,List.length_cons,List.length_nil]; omega) rfl fun p64 c64 Y w66 U m66 =>?_)
 refine gz hK8 U (.assign rfl .nil) fun Y U =>?_
 refine wsk fun K9 hK9 =>?_
 refine regS U (.assign rfl .nil) fun Y U =>?_
 refine wp_block ?_
 have m69 := m66.freezeR 8 rfl
 obtain ⟨ds,hds⟩ : ∃ ds,ds = (cs ++ [raw]) ++ [bt] := ⟨_,rfl⟩
 have hE : (cs ++ [raw]).map cmD ++ [[.v (.int .i64 bt.kd),.v (.int .i64 bt.vo),.v (.int .i64 bt.bl),.v (.int .i64 bt.sz),.v (.int .i64 bt.pe),.ns .i64 bt.pl,.v (.int .i64 bt.to),.v (.int .i64 bt.at0),.v (.int .i64 bt.ix),.l 2 (bt.its.map itD)]] = ds.map cmD := by rw [hds]; exact (List.map_append (f := cmD) (l₁ := (cs ++ [raw])) (l₂ := [bt])).symm
 rw [hE] at m69 U
 have hdB : ∀ x ∈ ds,CmB x := fun x hx => by rw [hds] at hx; exact (List.mem_append.1 hx).elim (fun h => (csb0 hcR hrB x h).b) (fun h => by rw [List.mem_singleton.1 h]; exact hbt)
 have hdl : ds.length ≤ 12 := by rw [hds,List.length_append,List.length_append,List.length_singleton,List.length_singleton]; omega
 refine wp_loop_ghost (fun g a w => ∃ (k : Nat) (p8 : Option Addr) (c8 : Nat),k ≤ ds.length ∧ g = ds.length - k ∧ Has 180 [(2,.slice q2 y1.length g2),(3,.int .u16 n3),(4,.int .u8 n4),(15,.slice p8 (ds.map cmD).length c8),(17,.int .i64 k)] a ∧ MemOk (cx (fun _ => True) w0) w0 [(12,.dat (.slice q2 y1.length g2) (.ns .u8 y1)),(8,.dat (.slice p8 (ds.map cmD).length c8) (.l 10 (ds.map cmD)))] w) (ds.length) ?_ ?_
 · exact ⟨0,_,_,Nat.zero_le _,rfl,U.only [2,3,4,15,17],m69.ren [(12,12),(8,8)] (by decide)⟩
 clear U m69
 rintro g Y w70 ⟨k,p8,c8,hkl,hg,U,m70⟩
 refine wsk fun K10 hK10 =>?_
 refine regS U (.move rfl<|.move rfl<|.len rfl U24<|.lss rfl rfl .nil) fun Y U =>?_
 refine bc U 94 ?_ ?_
 ·
  intro hb75 U; try simp only [QQ,Qax] at hb75
  have hk : k < ds.length := by have := hb75; first | omega | (simp at this; omega)
  obtain ⟨x,hes⟩ : ∃ e,ds[k]? = some e := ⟨_,List.getElem?_eq_getElem hk⟩
  have hxB := hdB x (List.mem_of_getElem? hes)
  refine wct U ?_
  refine zss (hK10 _ _ ?_)
  refine wsk fun K11 hK11 =>?_
  refine wp_block ?_
  refine wsk fun K12 hK12 =>?_
  by_cases hR : CmdR x
  ·
   refine wp_region_lit ?_
   refine goCh U (.move rfl<|.move rfl .nil) fun Y U =>?_
   obtain ⟨b78,o78,vs78,hp78,hR78,ho78,m78⟩ := m70.openR (i := 8) rfl (k) (r := [.v (.int .i64 x.kd),.v (.int .i64 x.vo),.v (.int .i64 x.bl),.v (.int .i64 x.sz),.v (.int .i64 x.pe),.ns .i64 x.pl,.v (.int .i64 x.to),.v (.int .i64 x.at0),.v (.int .i64 x.ix),.l 2 (x.its.map itD)]) (cmD_get hes) 600 rfl
   revert U
   cases hp78; clear m70 ho78
   rcases hR78 with _ | ⟨hd78_0,_ | ⟨hd78_1,_ | ⟨hd78_2,_ | ⟨hd78_3,_ | ⟨hd78_4,_ | ⟨hd78_5,_ | ⟨hd78_6,_ | ⟨hd78_7,_ | ⟨hd78_8,_ | ⟨hd78_9,_ | _⟩⟩⟩⟩⟩⟩⟩⟩⟩⟩
   obtain rfl := hd78_0.v_out
   clear hd78_0
   obtain rfl := hd78_1.v_out
   clear hd78_1
   obtain rfl := hd78_2.v_out
   clear hd78_2
   obtain rfl := hd78_3.v_out
   clear hd78_3
   obtain rfl := hd78_4.v_out
   clear hd78_4
   obtain ⟨p79,c79,hv79,hc79⟩ := hd78_5.ns_shape; subst hv79
   intro U
   have m79 := m78.dat 601 rfl (hd78_5.cast (fun _ h => (free_add rfl h))); clear m78 hd78_5
   revert U
   obtain rfl := hd78_6.v_out
   clear hd78_6
   obtain rfl := hd78_7.v_out
   clear hd78_7
   obtain rfl := hd78_8.v_out
   clear hd78_8
   obtain ⟨p80,c80,hv80,hc80⟩ := hd78_9.l_shape; subst hv80
   intro U
   have m80 := m79.dat 602 rfl (hd78_9.cast (fun _ h => (free_add rfl (free_add rfl h)))); clear m79 hd78_9
   refine goCh U (.c rfl (fun _ h_ => y_idx h_ rfl rfl U24 fct18 (k) rfl (by simpa using hk))<|.loadCR m80 (i := 600) rfl rfl U38 rfl fct18 .nil) fun Y U =>?_
   refine plz (ecn U Tryz.func25 rfl m80 603 (putCmd_yes x hR _ _ _ _ _ _ ((m80.rd (i := 601) rfl).any) ((m80.rd (i := 602) rfl).any)) fun p83 c83 Y w83 U m84 =>?_)
   have m86 := m84.freezeN 603 rfl
   refine gz hK12 U (.move rfl<|.extract rfl rfl<|.extract rfl rfl<|.assign rfl<|.assign rfl<|.nil) fun Y U =>?_
   replace U := U.oz [2,3,4,15,17,18,19]
   refine zsr fun K13 hK13 =>?_
   refine goCh U (.move rfl<|.move rfl .nil) fun Y U =>?_
   obtain ⟨b98,o98,vs98,hp98,hR98,ho98,m98⟩ := m86.openR (i := 8) rfl (k) (r := [.v (.int .i64 x.kd),.v (.int .i64 x.vo),.v (.int .i64 x.bl),.v (.int .i64 x.sz),.v (.int .i64 x.pe),.ns .i64 x.pl,.v (.int .i64 x.to),.v (.int .i64 x.at0),.v (.int .i64 x.ix),.l 2 (x.its.map itD)]) (cmD_get hes) 604 rfl
   revert U
   cases hp98; clear m86 ho98
   rcases hR98 with _ | ⟨hd98_0,_ | ⟨hd98_1,_ | ⟨hd98_2,_ | ⟨hd98_3,_ | ⟨hd98_4,_ | ⟨hd98_5,_ | ⟨hd98_6,_ | ⟨hd98_7,_ | ⟨hd98_8,_ | ⟨hd98_9,_ | _⟩⟩⟩⟩⟩⟩⟩⟩⟩⟩
   obtain rfl := hd98_0.v_out
   clear hd98_0
   obtain rfl := hd98_1.v_out
   clear hd98_1
   obtain rfl := hd98_2.v_out
   clear hd98_2
   obtain rfl := hd98_3.v_out
   clear hd98_3
   obtain rfl := hd98_4.v_out
   clear hd98_4
   obtain ⟨p99,c99,hv99,hc99⟩ := hd98_5.ns_shape; subst hv99
   intro U
   have m99 := m98.dat 605 rfl (hd98_5.cast (fun _ h => (free_add rfl h))); clear m98 hd98_5
   revert U
   obtain rfl := hd98_6.v_out
   clear hd98_6
   obtain rfl := hd98_7.v_out
   clear hd98_7
   obtain rfl := hd98_8.v_out
   clear hd98_8
   obtain ⟨p100,c100,hv100,hc100⟩ := hd98_9.l_shape; subst hv100
   intro U
   have m100 := m99.dat 606 rfl (hd98_9.cast (fun _ h => (free_add rfl (free_add rfl h)))); clear m99 hd98_9
   refine goCh U (.c rfl (fun _ h_ => y_idx h_ rfl rfl U24 fct18 (k) rfl (by simpa using hk))<|.loadCR m100 (i := 604) rfl rfl U38 rfl fct18 .nil) fun Y U =>?_
   refine plz (ecl U Tryz.func12 rfl (rputCmd_x x.kd x.vo x.bl x.sz x.pe x.to x.at0 x.ix x.pl x.its _ _ _ _ _ _ ((m100.rd (i := 605) rfl).any) ((m100.rd (i := 606) rfl).any) (hR.ok (fun e he => (hxB.2.2 e he).2))) ?_)
   rintro e w103 ⟨p103,c103,rfl,hd103,hb103⟩
   have m104 := m100.callF 607 rfl hb103 hd103
   refine ⟨_,rfl,?_⟩; intro Y U
   rw [show cmdE x.kd x.vo x.bl x.sz x.pe x.to x.at0 x.ix x.pl x.its = cmE x from rfl] at m104 U
   refine gz hK13 U (.move rfl<|.extract rfl rfl<|.extract rfl rfl<|.assign rfl<|.assign rfl<|.nil) fun Y U =>?_
   refine wsk fun K14 hK14 =>?_
   refine cutF (fun (hC14 : ∀ (a : Act) (w : World),(∃ (qb : List Int) (p8 pq : Option Addr) (c8 cq : Nat),BytesL qb ∧ qb.length ≤ 20000 ∧ Has 180 [(2,.slice q2 y1.length g2),(3,.int .u16 n3),(4,.int .u8 n4),(15,.slice p8 (ds.map cmD).length c8),(17,.int .i64 k),(20,.slice pq qb.length cq)] a ∧ MemOk (cx (fun _ => True) w0) w0 [(12,.dat (.slice q2 y1.length g2) (.ns .u8 y1)),(8,.dat (.slice p8 (ds.map cmD).length c8) (.l 10 (ds.map cmD))),(20,.dat (.slice pq qb.length cq) (.ns .u8 qb))] w) → K14 a w) =>?_) ?_
   ·
    refine wsk fun K26 hK26 =>?_
    replace U := U.oz [2,3,4,15,17,18,19,20,21]
    obtain ⟨b247,o247,vs247,hp247,hR247,ho247,m247⟩ := m104.openR (i := 8) rfl (k) (r := [.v (.int .i64 x.kd),.v (.int .i64 x.vo),.v (.int .i64 x.bl),.v (.int .i64 x.sz),.v (.int .i64 x.pe),.ns .i64 x.pl,.v (.int .i64 x.to),.v (.int .i64 x.at0),.v (.int .i64 x.ix),.l 2 (x.its.map itD)]) (cmD_get hes) 608 rfl
    revert U
    cases hp247; clear m104 ho247
    rcases hR247 with _ | ⟨hd247_0,_ | ⟨hd247_1,_ | ⟨hd247_2,_ | ⟨hd247_3,_ | ⟨hd247_4,_ | ⟨hd247_5,_ | ⟨hd247_6,_ | ⟨hd247_7,_ | ⟨hd247_8,_ | ⟨hd247_9,_ | _⟩⟩⟩⟩⟩⟩⟩⟩⟩⟩
    obtain rfl := hd247_0.v_out
    clear hd247_0
    obtain rfl := hd247_1.v_out
    clear hd247_1
    obtain rfl := hd247_2.v_out
    clear hd247_2
    obtain rfl := hd247_3.v_out
    clear hd247_3
    obtain rfl := hd247_4.v_out
    clear hd247_4
    obtain ⟨p248,c248,hv248,hc248⟩ := hd247_5.ns_shape; subst hv248
    intro U
    have m248 := m247.dat 609 rfl (hd247_5.cast (fun _ h => (free_add rfl h))); clear m247 hd247_5
    revert U
    obtain rfl := hd247_6.v_out
    clear hd247_6
    obtain rfl := hd247_7.v_out
    clear hd247_7
    obtain rfl := hd247_8.v_out
    clear hd247_8
    obtain ⟨p249,c249,hv249,hc249⟩ := hd247_9.l_shape; subst hv249
    intro U
    have m249 := m248.dat 610 rfl (hd247_9.cast (fun _ h => (free_add rfl (free_add rfl h)))); clear m248 hd247_9
    obtain ⟨b250,o250,vs250,hp250,hR250,ho250,m250⟩ := m249.openR (i := 8) rfl (k) (r := [.v (.int .i64 x.kd),.v (.int .i64 x.vo),.v (.int .i64 x.bl),.v (.int .i64 x.sz),.v (.int .i64 x.pe),.ns .i64 x.pl,.v (.int .i64 x.to),.v (.int .i64 x.at0),.v (.int .i64 x.ix),.l 2 (x.its.map itD)]) (cmD_get hes) 611 rfl
    revert U
    cases hp250; clear m249 ho250
    rcases hR250 with _ | ⟨hd250_0,_ | ⟨hd250_1,_ | ⟨hd250_2,_ | ⟨hd250_3,_ | ⟨hd250_4,_ | ⟨hd250_5,_ | ⟨hd250_6,_ | ⟨hd250_7,_ | ⟨hd250_8,_ | ⟨hd250_9,_ | _⟩⟩⟩⟩⟩⟩⟩⟩⟩⟩
    obtain rfl := hd250_0.v_out
    clear hd250_0
    obtain rfl := hd250_1.v_out
    clear hd250_1
    obtain rfl := hd250_2.v_out
    clear hd250_2
    obtain rfl := hd250_3.v_out
    clear hd250_3
    obtain rfl := hd250_4.v_out
    clear hd250_4
    obtain ⟨p251,c251,hv251,hc251⟩ := hd250_5.ns_shape; subst hv251
    intro U
    have m251 := m250.dat 612 rfl (hd250_5.cast (fun _ h => (free_add rfl h))); clear m250 hd250_5
    revert U
    obtain rfl := hd250_6.v_out
    clear hd250_6
    obtain rfl := hd250_7.v_out
    clear hd250_7
    obtain rfl := hd250_8.v_out
    clear hd250_8
    obtain ⟨p252,c252,hv252,hc252⟩ := hd250_9.l_shape; subst hv252
    intro U
    have m252 := m251.dat 613 rfl (hd250_9.cast (fun _ h => (free_add rfl (free_add rfl h)))); clear m251 hd250_9
    have m253 := m252.oz [8,12,600,601,602,603,604,605,606,607,608,609,610,611,612,613]
    refine region_p 23 (B := [(8,_),(12,_),(600,_),(601,_),(602,_),(603,_),(604,_),(605,_),(606,_),(607,_),(608,_),(609,_),(610,_),(611,_),(612,_),(613,_)]) (m253.to ⟨il,il,il,il,il,il,il,il,il,il,il,il,il,il,il,il,trivial⟩) m253 (by kernel_rfl) (fun w254 hP254 m254 =>?_); clear m253
    refine goA hP254 [0,1,2,3] 4 0 15 U (m254.to ⟨il,il,il,il,il,il,il,il,il,il,il,il,il,il,il,il,trivial⟩) (.move rfl<|.move rfl<|.neq rfl rfl<|.move rfl .nil) fun Y U =>?_
    refine bc U 116 ?_ ?_
    · intro hb _; exact absurd hb (by simp)
    clear U; intro _ U
    refine goR hP254 [4,5,6,7,8,9,10] [5,7] 7 15 2047 U (m254.to ⟨il,il,il,il,il,il,il,il,il,il,il,il,il,il,il,il,trivial⟩) (.move rfl<|.str rfl (fun _ h_ => (h_.nums (i := 603) rfl)) U22 U5 U9<|.move rfl<|.str rfl (fun _ h_ => (h_.nums (i := 607) rfl)) U22 U5 U9<|.neqS rfl rfl<|.pickF rfl rfl<|.move rfl .nil) fun Y U =>?_
    refine bc U 123 ?_ ?_
    · intro hb _; exact absurd hb (by simp)
    clear U; intro _ U
    refine goR hP254 [11,12,13,14,16,17,18,19] [14,19] 8 2047 1015807 U (m254.to ⟨il,il,il,il,il,il,il,il,il,il,il,il,il,il,il,il,trivial⟩) (.move rfl<|.move rfl<|.p (fun _ _ h_ => y_idx h_ rfl rfl U24 fct18 (k) rfl (by simpa using hk))<|.loadCR hh (i := 608) rfl rfl U38 rfl fct18<|.move rfl<|.move rfl<|.p (fun _ _ h_ => y_idx h_ rfl rfl U24 fct18 (k) rfl (by simpa using hk))<|.loadCR hh (i := 611) rfl rfl U38 rfl fct18 .nil) fun Y U =>?_
    refine stepE_only 15 rfl (by kernel_rfl) (wantedG U rfl rfl rfl rfl) (fun K hK =>?_)
    refine e_call U Tryz.func26 rfl rfl rfl rfl (cmdRight_yes x hR _ _ _ _ _ _ ((m254.rd (i := 609) rfl).any) ((m254.rd (i := 610) rfl).any)) ?_
    rintro e w276 ⟨rfl,hb276⟩
    have m277 := m254.later hb276
    refine ⟨_,rfl,?_⟩; intro Y U
    refine hK _ _ (m277.to ⟨il,il,il,il,il,il,il,il,il,il,il,il,il,il,il,il,trivial⟩) ?_; clear hK K
    refine stepE_only 20 rfl (by kernel_rfl) (wantedG U rfl rfl rfl rfl) (fun K hK =>?_)
    refine e_call U Tryz.func27 rfl rfl rfl rfl (rcmd_yes x.kd x.vo x.bl x.sz x.pe x.to x.at0 x.ix x.pl x.its _ _ _ _ _ _ ((m277.rd (i := 612) rfl).any) ((m277.rd (i := 613) rfl).any) (hR.ok (fun e he => (hxB.2.2 e he).2))) ?_
    rintro e w279 ⟨rfl,hb279⟩
    have m280 := m277.later hb279
    refine ⟨_,rfl,?_⟩; intro Y U
    refine hK _ _ (m280.to ⟨il,il,il,il,il,il,il,il,il,il,il,il,il,il,il,il,trivial⟩) ?_; clear hK K
    refine goA hP254 [21,22] 2 2097151 8388607 U (m280.to ⟨il,il,il,il,il,il,il,il,il,il,il,il,il,il,il,il,trivial⟩) (.neqB rfl rfl U4<|.pickF rfl rfl .nil) fun Y U =>?_
    refine wpAnyE_done (by kernel_rfl) ?_ _
    refine hK26 _ _ ?_
    refine bc U 135 ?_ ?_
    · intro hb _; exact absurd hb (by simp)
    clear U; intro _ U
    refine wcf U ?_
    refine wp_skip ?_
    show K14 _ _
    exact hC14 _ _ ⟨cmE x,_,_,_,_,(cmE_by hR (fun e he => (hxB.2.2 e he).2)),(hR.ok (fun e he => (hxB.2.2 e he).2)).len,U.only [2,3,4,15,17,20],m280.ren [(12,12),(8,8),(20,607)] (by decide)⟩
   clear U m104
   rintro Y w111 ⟨qb,p8,pq,c8,cq,hqB,hqL,U,m111⟩
   refine hK14 _ _ ?_
   refine zsr fun K15 hK15 =>?_
   refine goCh U (.move rfl .nil) fun Y U =>?_
   refine plz (e_app0N U m111 700 rfl rfl (m111.nums (i := 20) rfl) U22 fct0 (by decide) (by omega) rfl fun p114 c114 Y w115 U m115 =>?_)
   refine plz (e_litN U m115 701 (k := .u8) rfl rfl U22 fct0 rfl rfl rfl rfl fun g116 Y w117 U m117 =>?_)
   refine plz (e_appN U m117 700 rfl rfl rfl (m117.numsO (i := 701) rfl) U22 fct0 (by decide) (by simp only [List.length_map,List.length_append,List.length_singleton,List.length_cons,List.length_nil]; omega) rfl fun p118 c118 Y w119 U m119 =>?_)
   refine gz hK15 U (.assign rfl .nil) fun Y U =>?_
   refine wsk fun K16 hK16 =>?_
   have hyp : 0 < (qb ++ [(0 : Int)]).length := by rw [List.length_append,List.length_singleton]; omega
   obtain ⟨jj,hjj⟩ : ∃ jj : Nat,n3.tmod ((qb ++ [(0 : Int)]).length : Int) = (jj : Int) := ⟨(n3.tmod ((qb ++ [(0 : Int)]).length : Int)).toNat,(Int.toNat_of_nonneg (Int.tmod_nonneg _ (by omega))).symm⟩
   have hjl : jj < (qb ++ [(0 : Int)]).length := by have := Int.tmod_lt_of_pos n3 (b := ((qb ++ [(0 : Int)]).length : Int)) (by omega); omega
   obtain ⟨xv,hxv⟩ : ∃ xv,IntKind.u8.wrap ((BitVec.ofInt IntKind.u8.bits ((qb ++ [(0 : Int)]).getD jj 0) ^^^ BitVec.ofInt IntKind.u8.bits n4).toNat : Int) = xv := ⟨_,rfl⟩
   have hxb : 0 ≤ xv ∧ xv ≤ 255 := by rw [← hxv]; exact u8w_bd _
   refine wp_region_lit ?_
   refine goCh U (.move rfl<|.move rfl<|.conv rfl U25 U3 (IntWalk.i64_in _ (by omega))<|.move rfl<|.len rfl U22<|.rem rfl rfl (by omega) (r := (jj : Int)) hjj .nil) fun Y U =>?_
   obtain ⟨g127,hpg127⟩ := m119.openO (i := 700) rfl (Nat.lt_of_le_of_lt (Nat.zero_le _) hjl)
   revert U
   cases hpg127
   intro U
   refine goCh U (.c rfl (fun _ h_ => y_idxO h_ rfl rfl U22 fct15 (jj) rfl hjl)<|.c rfl (fun _ h_ => y_loadO h_ m119 (i := 700) rfl rfl rfl hjl U5 rfl)<|.move rfl<|.xor rfl rfl (r := xv) hxv .nil) fun Y U =>?_
   obtain ⟨g132,hpg132⟩ := m119.openO (i := 700) rfl (Nat.lt_of_le_of_lt (Nat.zero_le _) hjl)
   revert U
   cases hpg132
   intro U
   refine goCh U (.c rfl (fun _ h_ => y_idxO h_ rfl rfl U22 fct15 (jj) rfl hjl) .nil) fun Y U =>?_
   refine plz (e_storeO U m119 700 rfl rfl rfl rfl hjl fct15 fun w134 m134 =>?_)
   refine znl (hK16 _ _ ?_)
   replace U := U.oz [2,3,4,15,17,20,22]
   refine zsr fun K17 hK17 =>?_
   refine goCh U (.move rfl<|.move rfl<|.move rfl .nil) fun Y U =>?_
   have m143 := m134.freezeN 700 rfl
   refine plz (e_litR U m143 702 (mm := 1) rfl (.cons rfl rfl (.cons (m143.rd (i := 20) rfl) .nil)<|.cons rfl rfl (.cons (m143.rd (i := 700) rfl) .nil)<|.cons rfl rfl (.cons (m143.rd (i := 12) rfl) .nil) .nil) U23 fct19 rfl rfl rfl rfl rfl fun g142 Y w144 U m144 =>?_)
   refine gz hK17 U (.len rfl U23<|.move rfl<|.nil) fun Y U =>?_
   refine wp_block ?_
   have m147 := m144.freezeR 702 rfl
   obtain ⟨zs,hzs⟩ : ∃ zs,zs = [qb,((qb ++ [0]).set jj xv),y1] := ⟨_,rfl⟩
   have hE : [[D.ns .u8 qb],[.ns .u8 ((qb ++ [0]).set jj xv)],[.ns .u8 y1]] = zs.map bD9 := by rw [hzs]; rfl
   rw [hE] at m147
   have hzl : zs.length = 3 := by rw [hzs]; rfl
   have hzB : ∀ z ∈ zs,z.length ≤ 1000000 ∧ BytesL z := by rw [hzs]; exact zs_ok ⟨by omega,hqB⟩ ⟨by rw [List.length_set,List.length_append,List.length_singleton]; omega,set_by (bytes_app2 hqB (fun z hz => by simp at hz; omega)) hxb⟩ ⟨by omega,hb1⟩
   refine wp_loop_ghost (fun g a w => ∃ (j : Nat) (p8 p9 : Option Addr) (c8 c9 : Nat),j ≤ 3 ∧ g = 3 - j ∧ Has 180 [(2,.slice q2 y1.length g2),(3,.int .u16 n3),(4,.int .u8 n4),(15,.slice p8 (ds.map cmD).length c8),(17,.int .i64 k),(154,.slice p9 3 c9),(155,.int .i64 3),(156,.int .i64 j)] a ∧ MemOk (cx (fun _ => True) w0) w0 [(12,.dat (.slice q2 y1.length g2) (.ns .u8 y1)),(8,.dat (.slice p8 (ds.map cmD).length c8) (.l 10 (ds.map cmD))),(9,.dat (.slice p9 3 c9) (.l 1 (zs.map bD9)))] w) (3) ?_ ?_
   · exact ⟨0,_,_,_,_,Nat.zero_le _,rfl,U.only [2,3,4,15,17,154,155,156],m147.ren [(12,12),(8,8),(9,702)] (by decide)⟩
   clear U m147
   rintro g Y w148 ⟨j,p8,p9,c8,c9,hjl3,hg2,U,m148⟩
   refine regS U (.lss rfl rfl .nil) fun Y U =>?_
   refine wsk fun K18 hK18 =>?_
   refine bc U 157 ?_ ?_
   ·
    intro hb150 U; try simp only [QQ,Qax] at hb150
    have hj : j < zs.length := by omega
    obtain ⟨z,hez⟩ : ∃ e,zs[j]? = some e := ⟨_,List.getElem?_eq_getElem hj⟩
    have hzb := hzB z (List.mem_of_getElem? hez)
    refine wct U ?_
    refine zss (hK18 _ _ ?_)
    refine wsk fun K19 hK19 =>?_
    refine wp_block ?_
    refine zsr fun K20 hK20 =>?_
    obtain ⟨b152,o152,vs152,hp152,hR152,ho152,m152⟩ := m148.openR (i := 9) rfl (j) (r := [.ns .u8 z]) (bD9_get hez) 800 rfl
    revert U
    cases hp152; clear m148 ho152
    rcases hR152 with _ | ⟨hd152_0,_ | _⟩
    obtain ⟨p153,c153,hv153,hc153⟩ := hd152_0.ns_shape; subst hv153
    intro U
    have m153 := m152.dat 801 rfl (hd152_0.cast (fun _ h => (free_add rfl h))); clear m152 hd152_0
    refine gz hK20 U (.c rfl (fun _ h_ => y_idx h_ rfl rfl U23 fct2 (j) rfl (by omega))<|.loadC0 m153 (i := 800) rfl rfl U22 rfl<|.assign rfl<|.nil) fun Y U =>?_
    refine wsk fun K21 hK21 =>?_
    by_cases hz : ∃ c : Cm,CmdR c ∧ (∀ e ∈ c.its,BytesL e.2) ∧ cmE c = z
    ·
     revert U
     obtain ⟨c9,hR9,hb9,rfl⟩ := hz
     intro U
     refine wp_region_lit ?_
     refine goCh U (.move rfl .nil) fun Y U =>?_
     refine plz (ecl U Tryz.func28 rfl (readCmd_o _ c9 hR9 hb9 _ _ _ (m153.into [(1,801)] (by decide) rfl)) ?_)
     rintro e w158 ⟨pp158,pi158,cp158,ci158,rfl,hm158⟩
     have mx158 := m153.back hm158 [(801,1),(802,2),(803,3)] (by decide); clear hm158 m153
     have m158 := mx158.oz [801,802,803,8,9,12,800]
     refine ⟨_,rfl,?_⟩; intro Y U
     refine goCh U (.move rfl<|.extract rfl rfl<|.extract rfl rfl .nil) fun Y U =>?_
     refine plz (e_alloc U m158 804 fct23 rfl fun g163 Y w164 U m164 _ _ =>?_)
     refine plz (stw U m164 804 fct18 fun w165 m165 _ =>?_)
     refine gz hK21 U (.assign rfl .nil) fun Y U =>?_
     replace U := U.oz [2,3,4,15,17,154,155,156,24,25,26]
     refine zsr fun K22 hK22 =>?_
     refine goCh U (.move rfl .nil) fun Y U =>?_
     have m170 := m165.dat 805 rfl (m165.rd (i := 801) rfl)
     refine plz (ecl U Tryz.func29 rfl (rreadCmd_y _ c9 hR9 hb9 _ _ _ (m170.into [(1,805)] (by decide) rfl)) ?_)
     rintro e w171 ⟨pp171,cp171,pi171,ci171,rfl,hm171⟩
     have mx171 := m170.back hm171 [(806,1),(807,2)] (by decide); clear hm171 m170
     have m171 := mx171.oz [806,807,8,9,12,800,801,802,803,804]
     refine ⟨_,rfl,?_⟩; intro Y U
     refine goCh U (.move rfl<|.extract rfl rfl<|.extract rfl rfl .nil) fun Y U =>?_
     refine plz (e_alloc U m171 808 fct23 rfl fun g176 Y w177 U m177 _ _ =>?_)
     refine plz (stw U m177 808 fct18 fun w178 m178 _ =>?_)
     refine gz hK22 U (.assign rfl .nil) fun Y U =>?_
     replace U := U.oz [2,3,4,15,17,154,155,156,25,26,27,28]
     refine zsr fun K23 hK23 =>?_
     refine goCh U (.move rfl<|.move rfl<|.neq rfl rfl<|.move rfl .nil) fun Y U =>?_
     refine bc U 173 ?_ ?_
     · intro hb _; exact absurd hb (by simp)
     clear U; intro _ U
     refine goCh U (.loadBRZ m178 (i := 804) rfl rfl U38 rfl fct18 (by simp) (by dsimp only [List.drop,List.take] <;> rfl)<|.loadBRZ m178 (i := 808) rfl rfl U38 rfl fct18 (by simp) (by dsimp only [List.drop,List.take] <;> rfl) .nil) fun Y U =>?_
     refine stz U (ecb U Tryz.func30 rfl m178 (cmd_t c9 (by have := hR9.pl; omega) (by have := hR9.il; omega) _ _ _ _ _ _ _ _ _ _ _ ((m178.rd (i := 802) rfl).any) ((m178.rd (i := 803) rfl).any) ((m178.rd (i := 806) rfl).any) ((m178.rd (i := 807) rfl).any)) fun Y w192 U m193 =>?_)
     refine gz hK23 U (.notZ rfl<|.pickF rfl rfl<|.nil) fun Y U =>?_
     refine wcf U ?_
     refine zss (hK19 _ _ ?_)
     replace U := U.oz [2,3,4,15,17,154,155,156]
     refine wp_region_lit ?_
     refine goCh U (.inc (j + 1)<|.move rfl .nil) fun Y U =>?_
     refine wpList_nil ?_
     show ∃ n',n' < _ ∧ _
     exact ⟨3 - (j + 1),by omega,j + 1,_,_,_,_,by omega,rfl,U.only [2,3,4,15,17,154,155,156],m193.ren [(12,12),(8,8),(9,9)] (by decide)⟩
    have hno : ∀ x : Cm,CmdR x → (∀ e ∈ x.its,BytesL e.2) → cmE x ≠ z := fun x h1 h2 h3 => hz ⟨x,h1,h2,h3⟩
    refine wp_region_lit ?_
    refine goCh U (.move rfl .nil) fun Y U =>?_
    refine plz (ecl U Tryz.func28 rfl (readCmd_n _ z hzb.1 hzb.2 hno _ _ _ (m153.into [(1,801)] (by decide) rfl)) ?_)
    rintro e w201 ⟨rfl,hm201⟩
    have mx201 := m153.back hm201 [(801,1)] (by decide); clear hm201 m153
    have m201 := mx201.oz [801,8,9,12,800]
    refine ⟨_,rfl,?_⟩; intro Y U
    refine goCh U (.move rfl<|.extract rfl rfl<|.extract rfl rfl .nil) fun Y U =>?_
    refine plz (e_alloc U m201 804 fct23 rfl fun g206 Y w207 U m207 _ _ =>?_)
    refine plz (stw U m207 804 fct18 fun w208 m208 _ =>?_)
    refine gz hK21 U (.assign rfl .nil) fun Y U =>?_
    replace U := U.oz [2,3,4,15,17,154,155,156,24,25,26]
    refine zsr fun K24 hK24 =>?_
    refine goCh U (.move rfl .nil) fun Y U =>?_
    have m213 := m208.dat 805 rfl (m208.rd (i := 801) rfl)
    refine plz (ecl U Tryz.func29 rfl (rreadCmd_n _ z _ _ _ hzb.1 hzb.2 hno (m213.into [(1,805)] (by decide) rfl)) ?_)
    rintro e w214 ⟨rfl,hm214⟩
    have mx214 := m213.back hm214 [(805,1)] (by decide); clear hm214 m213
    have m214 := mx214.oz [805,8,9,12,800,801,804]
    refine ⟨_,rfl,?_⟩; intro Y U
    refine goCh U (.move rfl<|.extract rfl rfl<|.extract rfl rfl .nil) fun Y U =>?_
    refine plz (e_alloc U m214 808 fct23 rfl fun g219 Y w220 U m220 _ _ =>?_)
    refine plz (stw U m220 808 fct18 fun w221 m221 _ =>?_)
    refine gz hK24 U (.assign rfl .nil) fun Y U =>?_
    replace U := U.oz [2,3,4,15,17,154,155,156,25,26,27,28]
    refine zsr fun K25 hK25 =>?_
    refine goCh U (.move rfl<|.move rfl<|.neq rfl rfl<|.move rfl .nil) fun Y U =>?_
    refine bc U 173 ?_ ?_
    · intro hb _; exact absurd hb (by simp)
    clear U; intro _ U
    refine goCh U (.loadBRZ m221 (i := 804) rfl rfl U38 rfl fct18 (by simp) (by dsimp only [List.drop,List.take] <;> rfl)<|.loadBRZ m221 (i := 808) rfl rfl U38 rfl fct18 (by simp) (by dsimp only [List.drop,List.take] <;> rfl) .nil) fun Y U =>?_
    refine stz U (ecb U Tryz.func30 rfl m221 (cmd_t ⟨0,0,0,0,0,[],0,0,0,[]⟩ (Nat.zero_le _) (Nat.zero_le _) _ _ _ _ _ _ _ _ _ _ _ (Rd.nilN _ _ .i64 none) (Rd.l0 none 0 2) (Rd.nilN _ _ .i64 none) (Rd.l0 none 0 2)) fun Y w235 U m236 =>?_)
    refine gz hK25 U (.notZ rfl<|.pickF rfl rfl<|.nil) fun Y U =>?_
    refine wcf U ?_
    refine zss (hK19 _ _ ?_)
    replace U := U.oz [2,3,4,15,17,154,155,156]
    refine wp_region_lit ?_
    refine goCh U (.inc (j + 1)<|.move rfl .nil) fun Y U =>?_
    refine wpList_nil ?_
    show ∃ n',n' < _ ∧ _
    exact ⟨3 - (j + 1),by omega,j + 1,_,_,_,_,by omega,rfl,U.only [2,3,4,15,17,154,155,156],m236.ren [(12,12),(8,8),(9,9)] (by decide)⟩
   intro hb150 U; try simp only [QQ,Qax] at hb150
   refine wcf U ?_
   refine wp_exit ?_
   refine hK11 _ _ ?_
   refine wp_region_lit ?_
   refine goCh U (.move rfl<|.inc (k + 1)<|.assign rfl .nil) fun Y U =>?_
   refine wpList_nil ?_
   show ∃ n',n' < _ ∧ _
   exact ⟨ds.length - (k + 1),by omega,k + 1,_,_,by omega,rfl,U.only [2,3,4,15,17],m148.ren [(12,12),(8,8)] (by decide)⟩
  refine wp_region_lit ?_
  refine goCh U (.move rfl<|.move rfl .nil) fun Y U =>?_
  obtain ⟨b287,o287,vs287,hp287,hR287,ho287,m287⟩ := m70.openR (i := 8) rfl (k) (r := [.v (.int .i64 x.kd),.v (.int .i64 x.vo),.v (.int .i64 x.bl),.v (.int .i64 x.sz),.v (.int .i64 x.pe),.ns .i64 x.pl,.v (.int .i64 x.to),.v (.int .i64 x.at0),.v (.int .i64 x.ix),.l 2 (x.its.map itD)]) (cmD_get hes) 600 rfl
  revert U
  cases hp287; clear m70 ho287
  rcases hR287 with _ | ⟨hd287_0,_ | ⟨hd287_1,_ | ⟨hd287_2,_ | ⟨hd287_3,_ | ⟨hd287_4,_ | ⟨hd287_5,_ | ⟨hd287_6,_ | ⟨hd287_7,_ | ⟨hd287_8,_ | ⟨hd287_9,_ | _⟩⟩⟩⟩⟩⟩⟩⟩⟩⟩
  obtain rfl := hd287_0.v_out
  clear hd287_0
  obtain rfl := hd287_1.v_out
  clear hd287_1
  obtain rfl := hd287_2.v_out
  clear hd287_2
  obtain rfl := hd287_3.v_out
  clear hd287_3
  obtain rfl := hd287_4.v_out
  clear hd287_4
  obtain ⟨p288,c288,hv288,hc288⟩ := hd287_5.ns_shape; subst hv288
  intro U
  have m288 := m287.dat 601 rfl (hd287_5.cast (fun _ h => (free_add rfl h))); clear m287 hd287_5
  revert U
  obtain rfl := hd287_6.v_out
  clear hd287_6
  obtain rfl := hd287_7.v_out
  clear hd287_7
  obtain rfl := hd287_8.v_out
  clear hd287_8
  obtain ⟨p289,c289,hv289,hc289⟩ := hd287_9.l_shape; subst hv289
  intro U
  have m289 := m288.dat 602 rfl (hd287_9.cast (fun _ h => (free_add rfl (free_add rfl h)))); clear m288 hd287_9
  refine goCh U (.c rfl (fun _ h_ => y_idx h_ rfl rfl U24 fct18 (k) rfl (by simpa using hk))<|.loadCR m289 (i := 600) rfl rfl U38 rfl fct18 .nil) fun Y U =>?_
  refine plz (ecb U Tryz.func25 rfl m289 (putCmd_no x hR _ _ _ _ _ _ ((m289.rd (i := 601) rfl).any) ((m289.rd (i := 602) rfl).any)) fun Y w292 U m293 =>?_)
  refine gz hK12 U (.move rfl<|.extract rfl rfl<|.extract rfl rfl<|.assign rfl<|.assign rfl<|.nil) fun Y U =>?_
  replace U := U.oz [2,3,4,15,17,18,19]
  refine zsr fun K27 hK27 =>?_
  refine goCh U (.move rfl<|.move rfl .nil) fun Y U =>?_
  obtain ⟨b306,o306,vs306,hp306,hR306,ho306,m306⟩ := m293.openR (i := 8) rfl (k) (r := [.v (.int .i64 x.kd),.v (.int .i64 x.vo),.v (.int .i64 x.bl),.v (.int .i64 x.sz),.v (.int .i64 x.pe),.ns .i64 x.pl,.v (.int .i64 x.to),.v (.int .i64 x.at0),.v (.int .i64 x.ix),.l 2 (x.its.map itD)]) (cmD_get hes) 603 rfl
  revert U
  cases hp306; clear m293 ho306
  rcases hR306 with _ | ⟨hd306_0,_ | ⟨hd306_1,_ | ⟨hd306_2,_ | ⟨hd306_3,_ | ⟨hd306_4,_ | ⟨hd306_5,_ | ⟨hd306_6,_ | ⟨hd306_7,_ | ⟨hd306_8,_ | ⟨hd306_9,_ | _⟩⟩⟩⟩⟩⟩⟩⟩⟩⟩
  obtain rfl := hd306_0.v_out
  clear hd306_0
  obtain rfl := hd306_1.v_out
  clear hd306_1
  obtain rfl := hd306_2.v_out
  clear hd306_2
  obtain rfl := hd306_3.v_out
  clear hd306_3
  obtain rfl := hd306_4.v_out
  clear hd306_4
  obtain ⟨p307,c307,hv307,hc307⟩ := hd306_5.ns_shape; subst hv307
  intro U
  have m307 := m306.dat 604 rfl (hd306_5.cast (fun _ h => (free_add rfl h))); clear m306 hd306_5
  revert U
  obtain rfl := hd306_6.v_out
  clear hd306_6
  obtain rfl := hd306_7.v_out
  clear hd306_7
  obtain rfl := hd306_8.v_out
  clear hd306_8
  obtain ⟨p308,c308,hv308,hc308⟩ := hd306_9.l_shape; subst hv308
  intro U
  have m308 := m307.dat 605 rfl (hd306_9.cast (fun _ h => (free_add rfl (free_add rfl h)))); clear m307 hd306_9
  refine goCh U (.c rfl (fun _ h_ => y_idx h_ rfl rfl U24 fct18 (k) rfl (by simpa using hk))<|.loadCR m308 (i := 603) rfl rfl U38 rfl fct18 .nil) fun Y U =>?_
  refine plz (ecb U Tryz.func12 rfl m308 (rputCmd_no x.kd x.vo x.bl x.sz x.pe x.to x.at0 x.ix x.pl x.its _ _ _ _ _ _ ((m308.rd (i := 604) rfl).any) ((m308.rd (i := 605) rfl).any) hxB.1 hxB.2.1 hR) fun Y w311 U m312 =>?_)
  refine gz hK27 U (.move rfl<|.extract rfl rfl<|.extract rfl rfl<|.assign rfl<|.assign rfl<|.nil) fun Y U =>?_
  refine wsk fun K28 hK28 =>?_
  refine cutF (fun (hC28 : ∀ (a : Act) (w : World),(∃ (qb : List Int) (p8 pq : Option Addr) (c8 cq : Nat),BytesL qb ∧ qb.length ≤ 20000 ∧ Has 180 [(2,.slice q2 y1.length g2),(3,.int .u16 n3),(4,.int .u8 n4),(15,.slice p8 (ds.map cmD).length c8),(17,.int .i64 k),(20,.slice pq qb.length cq)] a ∧ MemOk (cx (fun _ => True) w0) w0 [(12,.dat (.slice q2 y1.length g2) (.ns .u8 y1)),(8,.dat (.slice p8 (ds.map cmD).length c8) (.l 10 (ds.map cmD))),(20,.dat (.slice pq qb.length cq) (.ns .u8 qb))] w) → K28 a w) =>?_) ?_
  ·
   refine wsk fun K40 hK40 =>?_
   replace U := U.oz [2,3,4,15,17,18,19,20,21]
   obtain ⟨b455,o455,vs455,hp455,hR455,ho455,m455⟩ := m312.openR (i := 8) rfl (k) (r := [.v (.int .i64 x.kd),.v (.int .i64 x.vo),.v (.int .i64 x.bl),.v (.int .i64 x.sz),.v (.int .i64 x.pe),.ns .i64 x.pl,.v (.int .i64 x.to),.v (.int .i64 x.at0),.v (.int .i64 x.ix),.l 2 (x.its.map itD)]) (cmD_get hes) 606 rfl
   revert U
   cases hp455; clear m312 ho455
   rcases hR455 with _ | ⟨hd455_0,_ | ⟨hd455_1,_ | ⟨hd455_2,_ | ⟨hd455_3,_ | ⟨hd455_4,_ | ⟨hd455_5,_ | ⟨hd455_6,_ | ⟨hd455_7,_ | ⟨hd455_8,_ | ⟨hd455_9,_ | _⟩⟩⟩⟩⟩⟩⟩⟩⟩⟩
   obtain rfl := hd455_0.v_out
   clear hd455_0
   obtain rfl := hd455_1.v_out
   clear hd455_1
   obtain rfl := hd455_2.v_out
   clear hd455_2
   obtain rfl := hd455_3.v_out
   clear hd455_3
   obtain rfl := hd455_4.v_out
   clear hd455_4
   obtain ⟨p456,c456,hv456,hc456⟩ := hd455_5.ns_shape; subst hv456
   intro U
   have m456 := m455.dat 607 rfl (hd455_5.cast (fun _ h => (free_add rfl h))); clear m455 hd455_5
   revert U
   obtain rfl := hd455_6.v_out
   clear hd455_6
   obtain rfl := hd455_7.v_out
   clear hd455_7
   obtain rfl := hd455_8.v_out
   clear hd455_8
   obtain ⟨p457,c457,hv457,hc457⟩ := hd455_9.l_shape; subst hv457
   intro U
   have m457 := m456.dat 608 rfl (hd455_9.cast (fun _ h => (free_add rfl (free_add rfl h)))); clear m456 hd455_9
   obtain ⟨b458,o458,vs458,hp458,hR458,ho458,m458⟩ := m457.openR (i := 8) rfl (k) (r := [.v (.int .i64 x.kd),.v (.int .i64 x.vo),.v (.int .i64 x.bl),.v (.int .i64 x.sz),.v (.int .i64 x.pe),.ns .i64 x.pl,.v (.int .i64 x.to),.v (.int .i64 x.at0),.v (.int .i64 x.ix),.l 2 (x.its.map itD)]) (cmD_get hes) 609 rfl
   revert U
   cases hp458; clear m457 ho458
   rcases hR458 with _ | ⟨hd458_0,_ | ⟨hd458_1,_ | ⟨hd458_2,_ | ⟨hd458_3,_ | ⟨hd458_4,_ | ⟨hd458_5,_ | ⟨hd458_6,_ | ⟨hd458_7,_ | ⟨hd458_8,_ | ⟨hd458_9,_ | _⟩⟩⟩⟩⟩⟩⟩⟩⟩⟩
   obtain rfl := hd458_0.v_out
   clear hd458_0
   obtain rfl := hd458_1.v_out
   clear hd458_1
   obtain rfl := hd458_2.v_out
   clear hd458_2
   obtain rfl := hd458_3.v_out
   clear hd458_3
   obtain rfl := hd458_4.v_out
   clear hd458_4
   obtain ⟨p459,c459,hv459,hc459⟩ := hd458_5.ns_shape; subst hv459
   intro U
   have m459 := m458.dat 610 rfl (hd458_5.cast (fun _ h => (free_add rfl h))); clear m458 hd458_5
   revert U
   obtain rfl := hd458_6.v_out
   clear hd458_6
   obtain rfl := hd458_7.v_out
   clear hd458_7
   obtain rfl := hd458_8.v_out
   clear hd458_8
   obtain ⟨p460,c460,hv460,hc460⟩ := hd458_9.l_shape; subst hv460
   intro U
   have m460 := m459.dat 611 rfl (hd458_9.cast (fun _ h => (free_add rfl (free_add rfl h)))); clear m459 hd458_9
   have m461 := m460.oz [8,12,600,601,602,603,604,605,606,607,608,609,610,611]
   refine region_p 23 (B := [(8,_),(12,_),(600,_),(601,_),(602,_),(603,_),(604,_),(605,_),(606,_),(607,_),(608,_),(609,_),(610,_),(611,_)]) (m461.to ⟨il,il,il,il,il,il,il,il,il,il,il,il,il,il,trivial⟩) m461 (by kernel_rfl) (fun w462 hP462 m462 =>?_); clear m461
   refine goA hP462 [0,1,2,3] 4 0 15 U (m462.to ⟨il,il,il,il,il,il,il,il,il,il,il,il,il,il,trivial⟩) (.move rfl<|.move rfl<|.neq rfl rfl<|.move rfl .nil) fun Y U =>?_
   refine bc U 116 ?_ ?_
   · intro hb _; exact absurd hb (by simp)
   clear U; intro _ U
   refine goR hP462 [4,5,6,7,8,9,10] [5,7] 7 15 2047 U (m462.to ⟨il,il,il,il,il,il,il,il,il,il,il,il,il,il,trivial⟩) (.move rfl<|.str rfl (fun _ h_ => (IsNums.nil _ _ _ _)) U22 U5 U9<|.move rfl<|.str rfl (fun _ h_ => (IsNums.nil _ _ _ _)) U22 U5 U9<|.neqS rfl rfl<|.pickF rfl rfl<|.move rfl .nil) fun Y U =>?_
   refine bc U 123 ?_ ?_
   · intro hb _; exact absurd hb (by simp)
   clear U; intro _ U
   refine goR hP462 [11,12,13,14,16,17,18,19] [14,19] 8 2047 1015807 U (m462.to ⟨il,il,il,il,il,il,il,il,il,il,il,il,il,il,trivial⟩) (.move rfl<|.move rfl<|.p (fun _ _ h_ => y_idx h_ rfl rfl U24 fct18 (k) rfl (by simpa using hk))<|.loadCR hh (i := 606) rfl rfl U38 rfl fct18<|.move rfl<|.move rfl<|.p (fun _ _ h_ => y_idx h_ rfl rfl U24 fct18 (k) rfl (by simpa using hk))<|.loadCR hh (i := 609) rfl rfl U38 rfl fct18 .nil) fun Y U =>?_
   refine stepE_only 15 rfl (by kernel_rfl) (wantedG U rfl rfl rfl rfl) (fun K hK =>?_)
   refine e_call U Tryz.func26 rfl rfl rfl rfl (cmdRight_no x hR _ _ _ _ _ _ ((m462.rd (i := 607) rfl).any) ((m462.rd (i := 608) rfl).any)) ?_
   rintro e w484 ⟨rfl,hb484⟩
   have m485 := m462.later hb484
   refine ⟨_,rfl,?_⟩; intro Y U
   refine hK _ _ (m485.to ⟨il,il,il,il,il,il,il,il,il,il,il,il,il,il,trivial⟩) ?_; clear hK K
   refine stepE_only 20 rfl (by kernel_rfl) (wantedG U rfl rfl rfl rfl) (fun K hK =>?_)
   refine e_call U Tryz.func27 rfl rfl rfl rfl (rcmdRight_n x.kd x.vo x.bl x.sz x.pe x.to x.at0 x.ix x.pl x.its _ _ _ _ _ _ ((m485.rd (i := 610) rfl).any) ((m485.rd (i := 611) rfl).any) hxB.1 hxB.2.1 hR) ?_
   rintro e w487 ⟨rfl,hb487⟩
   have m488 := m485.later hb487
   refine ⟨_,rfl,?_⟩; intro Y U
   refine hK _ _ (m488.to ⟨il,il,il,il,il,il,il,il,il,il,il,il,il,il,trivial⟩) ?_; clear hK K
   refine goA hP462 [21,22] 2 2097151 8388607 U (m488.to ⟨il,il,il,il,il,il,il,il,il,il,il,il,il,il,trivial⟩) (.neqB rfl rfl U4<|.pickF rfl rfl .nil) fun Y U =>?_
   refine wpAnyE_done (by kernel_rfl) ?_ _
   refine hK40 _ _ ?_
   refine bc U 135 ?_ ?_
   · intro hb _; exact absurd hb (by simp)
   clear U; intro _ U
   refine wcf U ?_
   refine wp_skip ?_
   have mz493 := m488.dat 99 rfl (Rd.nilN _ _ .u8 none)
   show K28 _ _
   exact hC28 _ _ ⟨[],_,_,_,_,(fun z hz => by cases hz),Nat.zero_le _,U.only [2,3,4,15,17,20],mz493.ren [(12,12),(8,8),(20,99)] (by decide)⟩
  clear U m312
  rintro Y w319 ⟨qb,p8,pq,c8,cq,hqB,hqL,U,m319⟩
  refine hK28 _ _ ?_
  refine zsr fun K29 hK29 =>?_
  refine goCh U (.move rfl .nil) fun Y U =>?_
  refine plz (e_app0N U m319 700 rfl rfl (m319.nums (i := 20) rfl) U22 fct0 (by decide) (by omega) rfl fun p322 c322 Y w323 U m323 =>?_)
  refine plz (e_litN U m323 701 (k := .u8) rfl rfl U22 fct0 rfl rfl rfl rfl fun g324 Y w325 U m325 =>?_)
  refine plz (e_appN U m325 700 rfl rfl rfl (m325.numsO (i := 701) rfl) U22 fct0 (by decide) (by simp only [List.length_map,List.length_append,List.length_singleton,List.length_cons,List.length_nil]; omega) rfl fun p326 c326 Y w327 U m327 =>?_)
  refine gz hK29 U (.assign rfl .nil) fun Y U =>?_
  refine wsk fun K30 hK30 =>?_
  have hyp : 0 < (qb ++ [(0 : Int)]).length := by rw [List.length_append,List.length_singleton]; omega
  obtain ⟨jj,hjj⟩ : ∃ jj : Nat,n3.tmod ((qb ++ [(0 : Int)]).length : Int) = (jj : Int) := ⟨(n3.tmod ((qb ++ [(0 : Int)]).length : Int)).toNat,(Int.toNat_of_nonneg (Int.tmod_nonneg _ (by omega))).symm⟩
  have hjl : jj < (qb ++ [(0 : Int)]).length := by have := Int.tmod_lt_of_pos n3 (b := ((qb ++ [(0 : Int)]).length : Int)) (by omega); omega
  obtain ⟨xv,hxv⟩ : ∃ xv,IntKind.u8.wrap ((BitVec.ofInt IntKind.u8.bits ((qb ++ [(0 : Int)]).getD jj 0) ^^^ BitVec.ofInt IntKind.u8.bits n4).toNat : Int) = xv := ⟨_,rfl⟩
  have hxb : 0 ≤ xv ∧ xv ≤ 255 := by rw [← hxv]; exact u8w_bd _
  refine wp_region_lit ?_
  refine goCh U (.move rfl<|.move rfl<|.conv rfl U25 U3 (IntWalk.i64_in _ (by omega))<|.move rfl<|.len rfl U22<|.rem rfl rfl (by omega) (r := (jj : Int)) hjj .nil) fun Y U =>?_
  obtain ⟨g335,hpg335⟩ := m327.openO (i := 700) rfl (Nat.lt_of_le_of_lt (Nat.zero_le _) hjl)
  revert U
  cases hpg335
  intro U
  refine goCh U (.c rfl (fun _ h_ => y_idxO h_ rfl rfl U22 fct15 (jj) rfl hjl)<|.c rfl (fun _ h_ => y_loadO h_ m327 (i := 700) rfl rfl rfl hjl U5 rfl)<|.move rfl<|.xor rfl rfl (r := xv) hxv .nil) fun Y U =>?_
  obtain ⟨g340,hpg340⟩ := m327.openO (i := 700) rfl (Nat.lt_of_le_of_lt (Nat.zero_le _) hjl)
  revert U
  cases hpg340
  intro U
  refine goCh U (.c rfl (fun _ h_ => y_idxO h_ rfl rfl U22 fct15 (jj) rfl hjl) .nil) fun Y U =>?_
  refine plz (e_storeO U m327 700 rfl rfl rfl rfl hjl fct15 fun w342 m342 =>?_)
  refine znl (hK30 _ _ ?_)
  replace U := U.oz [2,3,4,15,17,20,22]
  refine zsr fun K31 hK31 =>?_
  refine goCh U (.move rfl<|.move rfl<|.move rfl .nil) fun Y U =>?_
  have m351 := m342.freezeN 700 rfl
  refine plz (e_litR U m351 702 (mm := 1) rfl (.cons rfl rfl (.cons (m351.rd (i := 20) rfl) .nil)<|.cons rfl rfl (.cons (m351.rd (i := 700) rfl) .nil)<|.cons rfl rfl (.cons (m351.rd (i := 12) rfl) .nil) .nil) U23 fct19 rfl rfl rfl rfl rfl fun g350 Y w352 U m352 =>?_)
  refine gz hK31 U (.len rfl U23<|.move rfl<|.nil) fun Y U =>?_
  refine wp_block ?_
  have m355 := m352.freezeR 702 rfl
  obtain ⟨zs,hzs⟩ : ∃ zs,zs = [qb,((qb ++ [0]).set jj xv),y1] := ⟨_,rfl⟩
  have hE : [[D.ns .u8 qb],[.ns .u8 ((qb ++ [0]).set jj xv)],[.ns .u8 y1]] = zs.map bD9 := by rw [hzs]; rfl
  rw [hE] at m355
  have hzl : zs.length = 3 := by rw [hzs]; rfl
  have hzB : ∀ z ∈ zs,z.length ≤ 1000000 ∧ BytesL z := by rw [hzs]; exact zs_ok ⟨by omega,hqB⟩ ⟨by rw [List.length_set,List.length_append,List.length_singleton]; omega,set_by (bytes_app2 hqB (fun z hz => by simp at hz; omega)) hxb⟩ ⟨by omega,hb1⟩
  refine wp_loop_ghost (fun g a w => ∃ (j : Nat) (p8 p9 : Option Addr) (c8 c9 : Nat),j ≤ 3 ∧ g = 3 - j ∧ Has 180 [(2,.slice q2 y1.length g2),(3,.int .u16 n3),(4,.int .u8 n4),(15,.slice p8 (ds.map cmD).length c8),(17,.int .i64 k),(154,.slice p9 3 c9),(155,.int .i64 3),(156,.int .i64 j)] a ∧ MemOk (cx (fun _ => True) w0) w0 [(12,.dat (.slice q2 y1.length g2) (.ns .u8 y1)),(8,.dat (.slice p8 (ds.map cmD).length c8) (.l 10 (ds.map cmD))),(9,.dat (.slice p9 3 c9) (.l 1 (zs.map bD9)))] w) (3) ?_ ?_
  · exact ⟨0,_,_,_,_,Nat.zero_le _,rfl,U.only [2,3,4,15,17,154,155,156],m355.ren [(12,12),(8,8),(9,702)] (by decide)⟩
  clear U m355
  rintro g Y w356 ⟨j,p8,p9,c8,c9,hjl3,hg2,U,m356⟩
  refine regS U (.lss rfl rfl .nil) fun Y U =>?_
  refine wsk fun K32 hK32 =>?_
  refine bc U 157 ?_ ?_
  ·
   intro hb358 U; try simp only [QQ,Qax] at hb358
   have hj : j < zs.length := by omega
   obtain ⟨z,hez⟩ : ∃ e,zs[j]? = some e := ⟨_,List.getElem?_eq_getElem hj⟩
   have hzb := hzB z (List.mem_of_getElem? hez)
   refine wct U ?_
   refine zss (hK32 _ _ ?_)
   refine wsk fun K33 hK33 =>?_
   refine wp_block ?_
   refine zsr fun K34 hK34 =>?_
   obtain ⟨b360,o360,vs360,hp360,hR360,ho360,m360⟩ := m356.openR (i := 9) rfl (j) (r := [.ns .u8 z]) (bD9_get hez) 800 rfl
   revert U
   cases hp360; clear m356 ho360
   rcases hR360 with _ | ⟨hd360_0,_ | _⟩
   obtain ⟨p361,c361,hv361,hc361⟩ := hd360_0.ns_shape; subst hv361
   intro U
   have m361 := m360.dat 801 rfl (hd360_0.cast (fun _ h => (free_add rfl h))); clear m360 hd360_0
   refine gz hK34 U (.c rfl (fun _ h_ => y_idx h_ rfl rfl U23 fct2 (j) rfl (by omega))<|.loadC0 m361 (i := 800) rfl rfl U22 rfl<|.assign rfl<|.nil) fun Y U =>?_
   refine wsk fun K35 hK35 =>?_
   by_cases hz : ∃ c : Cm,CmdR c ∧ (∀ e ∈ c.its,BytesL e.2) ∧ cmE c = z
   ·
    revert U
    obtain ⟨c9,hR9,hb9,rfl⟩ := hz
    intro U
    refine wp_region_lit ?_
    refine goCh U (.move rfl .nil) fun Y U =>?_
    refine plz (ecl U Tryz.func28 rfl (readCmd_o _ c9 hR9 hb9 _ _ _ (m361.into [(1,801)] (by decide) rfl)) ?_)
    rintro e w366 ⟨pp366,pi366,cp366,ci366,rfl,hm366⟩
    have mx366 := m361.back hm366 [(801,1),(802,2),(803,3)] (by decide); clear hm366 m361
    have m366 := mx366.oz [801,802,803,8,9,12,800]
    refine ⟨_,rfl,?_⟩; intro Y U
    refine goCh U (.move rfl<|.extract rfl rfl<|.extract rfl rfl .nil) fun Y U =>?_
    refine plz (e_alloc U m366 804 fct23 rfl fun g371 Y w372 U m372 _ _ =>?_)
    refine plz (stw U m372 804 fct18 fun w373 m373 _ =>?_)
    refine gz hK35 U (.assign rfl .nil) fun Y U =>?_
    replace U := U.oz [2,3,4,15,17,154,155,156,24,25,26]
    refine zsr fun K36 hK36 =>?_
    refine goCh U (.move rfl .nil) fun Y U =>?_
    have m378 := m373.dat 805 rfl (m373.rd (i := 801) rfl)
    refine plz (ecl U Tryz.func29 rfl (rreadCmd_y _ c9 hR9 hb9 _ _ _ (m378.into [(1,805)] (by decide) rfl)) ?_)
    rintro e w379 ⟨pp379,cp379,pi379,ci379,rfl,hm379⟩
    have mx379 := m378.back hm379 [(806,1),(807,2)] (by decide); clear hm379 m378
    have m379 := mx379.oz [806,807,8,9,12,800,801,802,803,804]
    refine ⟨_,rfl,?_⟩; intro Y U
    refine goCh U (.move rfl<|.extract rfl rfl<|.extract rfl rfl .nil) fun Y U =>?_
    refine plz (e_alloc U m379 808 fct23 rfl fun g384 Y w385 U m385 _ _ =>?_)
    refine plz (stw U m385 808 fct18 fun w386 m386 _ =>?_)
    refine gz hK36 U (.assign rfl .nil) fun Y U =>?_
    replace U := U.oz [2,3,4,15,17,154,155,156,25,26,27,28]
    refine zsr fun K37 hK37 =>?_
    refine goCh U (.move rfl<|.move rfl<|.neq rfl rfl<|.move rfl .nil) fun Y U =>?_
    refine bc U 173 ?_ ?_
    · intro hb _; exact absurd hb (by simp)
    clear U; intro _ U
    refine goCh U (.loadBRZ m386 (i := 804) rfl rfl U38 rfl fct18 (by simp) (by dsimp only [List.drop,List.take] <;> rfl)<|.loadBRZ m386 (i := 808) rfl rfl U38 rfl fct18 (by simp) (by dsimp only [List.drop,List.take] <;> rfl) .nil) fun Y U =>?_
    refine stz U (ecb U Tryz.func30 rfl m386 (cmd_t c9 (by have := hR9.pl; omega) (by have := hR9.il; omega) _ _ _ _ _ _ _ _ _ _ _ ((m386.rd (i := 802) rfl).any) ((m386.rd (i := 803) rfl).any) ((m386.rd (i := 806) rfl).any) ((m386.rd (i := 807) rfl).any)) fun Y w400 U m401 =>?_)
    refine gz hK37 U (.notZ rfl<|.pickF rfl rfl<|.nil) fun Y U =>?_
    refine wcf U ?_
    refine zss (hK33 _ _ ?_)
    replace U := U.oz [2,3,4,15,17,154,155,156]
    refine wp_region_lit ?_
    refine goCh U (.inc (j + 1)<|.move rfl .nil) fun Y U =>?_
    refine wpList_nil ?_
    show ∃ n',n' < _ ∧ _
    exact ⟨3 - (j + 1),by omega,j + 1,_,_,_,_,by omega,rfl,U.only [2,3,4,15,17,154,155,156],m401.ren [(12,12),(8,8),(9,9)] (by decide)⟩
   have hno : ∀ x : Cm,CmdR x → (∀ e ∈ x.its,BytesL e.2) → cmE x ≠ z := fun x h1 h2 h3 => hz ⟨x,h1,h2,h3⟩
   refine wp_region_lit ?_
   refine goCh U (.move rfl .nil) fun Y U =>?_
   refine plz (ecl U Tryz.func28 rfl (readCmd_n _ z hzb.1 hzb.2 hno _ _ _ (m361.into [(1,801)] (by decide) rfl)) ?_)
   rintro e w409 ⟨rfl,hm409⟩
   have mx409 := m361.back hm409 [(801,1)] (by decide); clear hm409 m361
   have m409 := mx409.oz [801,8,9,12,800]
   refine ⟨_,rfl,?_⟩; intro Y U
   refine goCh U (.move rfl<|.extract rfl rfl<|.extract rfl rfl .nil) fun Y U =>?_
   refine plz (e_alloc U m409 804 fct23 rfl fun g414 Y w415 U m415 _ _ =>?_)
   refine plz (stw U m415 804 fct18 fun w416 m416 _ =>?_)
   refine gz hK35 U (.assign rfl .nil) fun Y U =>?_
   replace U := U.oz [2,3,4,15,17,154,155,156,24,25,26]
   refine zsr fun K38 hK38 =>?_
   refine goCh U (.move rfl .nil) fun Y U =>?_
   have m421 := m416.dat 805 rfl (m416.rd (i := 801) rfl)
   refine plz (ecl U Tryz.func29 rfl (rreadCmd_n _ z _ _ _ hzb.1 hzb.2 hno (m421.into [(1,805)] (by decide) rfl)) ?_)
   rintro e w422 ⟨rfl,hm422⟩
   have mx422 := m421.back hm422 [(805,1)] (by decide); clear hm422 m421
   have m422 := mx422.oz [805,8,9,12,800,801,804]
   refine ⟨_,rfl,?_⟩; intro Y U
   refine goCh U (.move rfl<|.extract rfl rfl<|.extract rfl rfl .nil) fun Y U =>?_
   refine plz (e_alloc U m422 808 fct23 rfl fun g427 Y w428 U m428 _ _ =>?_)
   refine plz (stw U m428 808 fct18 fun w429 m429 _ =>?_)
   refine gz hK38 U (.assign rfl .nil) fun Y U =>?_
   replace U := U.oz [2,3,4,15,17,154,155,156,25,26,27,28]
   refine zsr fun K39 hK39 =>?_
   refine goCh U (.move rfl<|.move rfl<|.neq rfl rfl<|.move rfl .nil) fun Y U =>?_
   refine bc U 173 ?_ ?_
   · intro hb _; exact absurd hb (by simp)
   clear U; intro _ U
   refine goCh U (.loadBRZ m429 (i := 804) rfl rfl U38 rfl fct18 (by simp) (by dsimp only [List.drop,List.take] <;> rfl)<|.loadBRZ m429 (i := 808) rfl rfl U38 rfl fct18 (by simp) (by dsimp only [List.drop,List.take] <;> rfl) .nil) fun Y U =>?_
   refine stz U (ecb U Tryz.func30 rfl m429 (cmd_t ⟨0,0,0,0,0,[],0,0,0,[]⟩ (Nat.zero_le _) (Nat.zero_le _) _ _ _ _ _ _ _ _ _ _ _ (Rd.nilN _ _ .i64 none) (Rd.l0 none 0 2) (Rd.nilN _ _ .i64 none) (Rd.l0 none 0 2)) fun Y w443 U m444 =>?_)
   refine gz hK39 U (.notZ rfl<|.pickF rfl rfl<|.nil) fun Y U =>?_
   refine wcf U ?_
   refine zss (hK33 _ _ ?_)
   replace U := U.oz [2,3,4,15,17,154,155,156]
   refine wp_region_lit ?_
   refine goCh U (.inc (j + 1)<|.move rfl .nil) fun Y U =>?_
   refine wpList_nil ?_
   show ∃ n',n' < _ ∧ _
   exact ⟨3 - (j + 1),by omega,j + 1,_,_,_,_,by omega,rfl,U.only [2,3,4,15,17,154,155,156],m444.ren [(12,12),(8,8),(9,9)] (by decide)⟩
  intro hb358 U; try simp only [QQ,Qax] at hb358
  refine wcf U ?_
  refine wp_exit ?_
  refine hK11 _ _ ?_
  refine wp_region_lit ?_
  refine goCh U (.move rfl<|.inc (k + 1)<|.assign rfl .nil) fun Y U =>?_
  refine wpList_nil ?_
  show ∃ n',n' < _ ∧ _
  exact ⟨ds.length - (k + 1),by omega,k + 1,_,_,by omega,rfl,U.only [2,3,4,15,17],m356.ren [(12,12),(8,8)] (by decide)⟩
 intro hb75 U; try simp only [QQ,Qax] at hb75
 refine wcf U ?_
 refine wp_exit ?_
 refine hK9 _ _ ?_
 refine regS U (.assign rfl .nil) fun Y U =>?_
 refine rt1 U ?_
 exact ⟨rfl,m70.below⟩
end
end Go.Proofs.YtkehgingagggaaaGreat.K
