/- General laws of walks. -/
import Derived.Test.YtkehgingagggaaaGreatG10
namespace Go.Proofs.YtkehgingagggaaaGreat.K
open Go.ChangeShapes Go.WideShapes Go.ChangeAt Go.RowKit
set_option linter.unusedVariables false
set_option linter.unusedSimpArgs false
section
theorem le_snoc {l : List Int} {k : Nat} {a : Int} (h : ∀ j,j < k → l.getD j 0 ≤ a) (hk : l.getD k 0 ≤ a) : ∀ j,j < k + 1 → l.getD j 0 ≤ a := fun j hj => by
 rcases Nat.lt_or_ge j k with h1 | h1
 · exact h j h1
 obtain rfl : j = k := by omega
 exact hk
theorem nn_snoc {l : List Int} {k : Nat} {a : Int} (h : ∀ j,j < k → l.getD j 0 ≠ a) (hk : ¬ l.getD k 0 = a) : ∀ j,j < k + 1 → l.getD j 0 ≠ a := fun j hj => by
 rcases Nat.lt_or_ge j k with h1 | h1
 · exact h j h1
 obtain rfl : j = k := by omega
 exact hk
theorem sortP_sorted (l : List Int) : (sortP l).Pairwise (· ≤ ·) := by
 have h := List.pairwise_mergeSort (le := fun (x y : Int) => decide (x ≤ y)) (fun a b c h1 h2 => by simp at h1 h2 ⊢; omega) (fun a b => by simp; omega) l
 exact h.imp (fun h => by simpa using h)
theorem pin_sorted {pins : List Int} {at0 : Int} {k : Nat} (hs : pins.Pairwise (· ≤ ·)) (hall : ∀ j,j < k → pins.getD j 0 ≤ at0) (hkl : k ≤ pins.length) (hnx : k = pins.length ∨ at0 < pins.getD k 0) : pins.take k ++ [at0] ++ pins.drop k = sortP (pins ++ [at0]) := by
 refine List.Perm.eq_of_pairwise (le := (· ≤ ·)) (fun a b _ _ h1 h2 => by omega) ?_ (sortP_sorted _) ?_
 · rw [List.append_assoc,List.pairwise_append]
   refine ⟨hs.sublist (List.take_sublist _ _),?_,?_⟩
   · rw [List.singleton_append,List.pairwise_cons]
     refine ⟨fun b hb =>?_,hs.sublist (List.drop_sublist _ _)⟩
     rcases hnx with rfl | hnx
     · rw [List.drop_length] at hb; cases hb
     obtain ⟨j,hj,rfl⟩ := List.getElem_of_mem hb
     rw [List.length_drop] at hj
     rw [List.getElem_drop]
     have h1 : pins.getD k 0 ≤ pins[k + j] := by
       rw [List.getD,List.getElem?_eq_getElem (by omega)]
       rcases Nat.eq_zero_or_pos j with rfl | hj0
       · exact Int.le_refl _
       exact List.pairwise_iff_getElem.1 hs k (k + j) (by omega) (by omega) (by omega)
     omega
   intro a ha b hb
   obtain ⟨j,hj,rfl⟩ := List.getElem_of_mem ha
   rw [List.length_take] at hj
   rw [List.getElem_take]
   have h1 : pins[j] ≤ at0 := by have := hall j (by omega); rwa [List.getD,List.getElem?_eq_getElem (by omega)] at this
   rcases List.mem_append.1 hb with hb | hb
   · simp at hb; omega
   obtain ⟨i,hi,rfl⟩ := List.getElem_of_mem hb
   rw [List.length_drop] at hi
   rw [List.getElem_drop]
   exact List.pairwise_iff_getElem.1 hs j (k + i) (by omega) (by omega) (by omega)
 refine List.Perm.trans ?_ (List.mergeSort_perm _ _).symm
 rw [List.append_assoc]
 refine (List.Perm.append_left _ (List.perm_append_comm)).trans ?_
 rw [← List.append_assoc,List.take_append_drop]
set_option maxRecDepth 100000
set_option maxHeartbeats 4000000
theorem rdone (X : Cx) (vo bl sz pe to ne fl : Int) (hi : Bool) (place pins : List Int) (ws : List (Int × List (Int × List Int))) (items : List (Int × List Int)) (pp pn pw : Option Addr) (cp cn9 cw : Nat) (pi : Option Addr) (ci : Nat) (kd v1 v2 v3 v4 v5 at0 ix : Int) (q1 : Option Addr) (n1 c1 : Nat) (w0 : World) (hk4 : kd ≠ 4) (hk5 : kd ≠ 5) (hne : -1000000000000000 ≤ ne ∧ ne ≤ 1000000000000000) (hl : ws.length ≤ 900000) (hp : pins.length ≤ 1000000) (hil : items.length ≤ 1000000) (hio : ItsOk items) (m0 : MemOk X w0 [(1,.dat (.slice pp place.length cp) (.ns .i64 place)),(2,.dat (.slice pn pins.length cn9) (.ns .i64 pins)),(3,.dat (.slice pw (ws.map wrD).length cw) (.l 2 (ws.map wrD))),(4,.dat (.slice pi items.length ci) (.l 2 (items.map itD)))] w0) :
   Calls Tryz.prog 89 #[.agg #[.int .i64 vo,.int .i64 bl,.int .i64 sz,.int .i64 pe,.slice pp place.length cp,.int .i64 to,.int .i64 ne,.bool hi,.int .i64 fl,.slice pn pins.length cn9,.slice pw (ws.map wrD).length cw],.agg #[.int .i64 kd,.int .i64 v1,.int .i64 v2,.int .i64 v3,.int .i64 v4,.slice q1 n1 c1,.int .i64 v5,.int .i64 at0,.int .i64 ix,.slice pi items.length ci]] w0 fun e w' => ∃ (ne' : Int) (hi' : Bool) (fl' : Int) (ws' : List (Int × List (Int × List Int))) (e9 : Int) (p3' : Option Addr) (d3' : Nat),e = .returned (.tuple #[.agg #[.int .i64 vo,.int .i64 bl,.int .i64 sz,.int .i64 pe,.slice pp place.length cp,.int .i64 to,.int .i64 ne',.bool hi',.int .i64 fl',.slice pn pins.length cn9,.slice p3' (ws'.map wrD).length d3'],.int .i64 e9]) ∧ doR bl sz to ne fl hi pins ws kd at0 ix items = (ne',hi',fl',ws',e9) ∧ MemOk X w0 [(1,.dat (.slice pp place.length cp) (.ns .i64 place)),(2,.dat (.slice pn pins.length cn9) (.ns .i64 pins)),(3,.dat (.slice pw (ws.map wrD).length cw) (.l 2 (ws.map wrD))),(4,.dat (.slice pi items.length ci) (.l 2 (items.map itD))),(7,.dat (.slice p3' (ws'.map wrD).length d3') (.l 2 (ws'.map wrD)))] w' := by
 refine ent2 Tryz.func89 rfl Tryz.ntmps89 fun Y U =>?_
 refine zsr fun K0 hK0 =>?_
 refine plz (e_box U m0 20 (cs := [_,_,_,_,_,_,_,_,_,_,_]) rfl rfl rfl fun g1 Y w2 U m2 _ _ =>?_)
 refine plz (e_box U m2 21 (cs := [_,_,_,_,_,_,_,_,_,_]) rfl rfl rfl fun g3 Y w4 U m4 _ _ =>?_)
 refine plz (e_alloc U m4 22 fct14 rfl fun g5 Y w6 U m6 _ _ =>?_)
 refine gz hK0 U (.assign rfl .nil) fun Y U =>?_
 refine wsk fun K1 hK1 =>?_
 refine regS U (.fa 0 rfl U38<|.lb m6 21 U3 rfl rfl rfl .nil) fun Y U =>?_
 refine wp_block ?_
 refine wsk fun K2 hK2 =>?_
 refine regS U (.eql rfl rfl<|.assign rfl .nil) fun Y U =>?_
 refine bc U 10 ?_ ?_
 ·
  intro hb12 U; try simp only [QQ,Qax] at hb12
  refine wct U ?_
  refine zss (hK2 _ _ ?_)
  refine wct U ?_
  refine regS U (.fa 7 rfl U51<|.lb m6 20 U4 rfl rfl rfl .nil) fun Y U =>?_
  refine bc U 16 ?_ ?_
  ·
   intro hb15 U; try simp only [QQ,Qax] at hb15
   refine wct U ?_
   replace U := U.oz [2,3,4,5,10,16]
   refine zsr fun K3 hK3 =>?_
   refine goCh U (.loadBR m6 (i := 20) rfl rfl U51 rfl fct13 (by simp) (by dsimp only [List.drop,List.take] <;> rfl) .nil) fun Y U =>?_
   refine plz (stw U m6 22 fct13 fun w19 m19 _ =>?_)
   refine gz hK3 U (.assign rfl .nil) fun Y U =>?_
   refine rtd (retCT (fn := Tryz.f89) U m19 (i := 22) rfl rfl rfl rfl U51 rfl fct13 ?_)
   have m21 := m19.dat 23 rfl (m19.rd (i := 3) rfl)
   exact ⟨ne,hi,fl,ws,28,_,_,rfl,by rw [doR,if_pos (by omega),putR,if_pos (by assumption)],m21.ren [(1,1),(2,2),(3,3),(4,4),(7,23)] (by decide)⟩
  intro hb15 U; try simp only [QQ,Qax] at hb15
  refine wcf U ?_
  refine zss (hK1 _ _ ?_)
  refine wsk fun K4 hK4 =>?_
  replace U := U.oz [2,3,4,5,10,16]
  refine regS U (.fa 0 rfl U38<|.lb m6 21 U3 rfl rfl rfl .nil) fun Y U =>?_
  refine wp_block ?_
  refine regS U (.eql rfl rfl<|.assign rfl .nil) fun Y U =>?_
  refine bc U 21 ?_ ?_
  rotate_left
  · intro hb _; exact absurd hb (by simp; omega)
  clear U; intro _ U
  refine wct U ?_
  refine wsk fun K5 hK5 =>?_
  refine zsr fun K6 hK6 =>?_
  refine goCh U (.fa 1 rfl U51<|.lb m6 20 U3 rfl rfl rfl<|.fa 2 rfl U51<|.lb m6 20 U3 rfl rfl rfl<|.fa 9 rfl U38<|.lb m6 21 U36 rfl rfl rfl .nil) fun Y U =>?_
  refine plz (ecl U Tryz.func115 rfl (ritems_any _ _ items _ _ _ _ ((m6.rd (i := 4) rfl).any) hil) ?_)
  rintro e w40 ⟨ib,rfl,hib,hb40⟩
  have m41 := m6.later hb40
  refine ⟨_,rfl,?_⟩; intro Y U
  refine gz hK6 U (.not rfl .nil) fun Y U =>?_
  refine bc U 30 ?_ ?_
  ·
   intro hb44 U; try simp only [QQ,Qax] at hb44
   refine wct U ?_
   replace U := U.oz [2,3,4,5,10,16,19,21,30]
   refine zsr fun K7 hK7 =>?_
   refine goCh U (.loadBR m41 (i := 20) rfl rfl U51 rfl fct13 (by simp) (by dsimp only [List.drop,List.take] <;> rfl) .nil) fun Y U =>?_
   refine plz (stw U m41 22 fct13 fun w48 m48 _ =>?_)
   refine gz hK7 U (.assign rfl .nil) fun Y U =>?_
   refine rtd (retCT (fn := Tryz.f89) U m48 (i := 22) rfl rfl rfl rfl U51 rfl fct13 ?_)
   have m50 := m48.dat 23 rfl (m48.rd (i := 3) rfl)
   exact ⟨ne,hi,fl,ws,23,_,_,rfl,by rw [doR,if_pos (by omega),putR,if_neg (by simp_all),wrR,if_neg (fun h => by have h9 := hib.2 h; simp_all)],m50.ren [(1,1),(2,2),(3,3),(4,4),(7,23)] (by decide)⟩
  intro hb44 U; try simp only [QQ,Qax] at hb44
  refine wcf U ?_
  refine zss (hK5 _ _ ?_)
  replace U := U.oz [2,3,4,5,10,16,19,21,30]
  refine zsr fun K8 hK8 =>?_
  refine goCh U (.loadBR m41 (i := 20) rfl rfl U51 rfl fct13 (by simp) (by dsimp only [List.drop,List.take] <;> rfl)<|.fa 9 rfl U38<|.lb m41 21 U36 rfl rfl rfl .nil) fun Y U =>?_
  refine plz (ecl U Tryz.func129 rfl (rwrite_fr _ _ _ _ _ _ _ _ _ place pins ws items _ _ _ _ _ _ _ _ _ hl hil hio (m41.into [(1,1),(2,2),(3,3),(4,4)] (by decide) rfl)) ?_)
  rintro e w58 ⟨p58,c58,rfl,hm58⟩
  have mx58 := m41.back hm58 [(1,1),(2,2),(3,3),(4,4),(23,7)] (by decide); clear hm58 m41
  have m58 := mx58.oz [1,2,3,4,23,20,21,22]
  refine ⟨_,rfl,?_⟩; intro Y U
  refine plz (stw U m58 22 fct13 fun w60 m60 _ =>?_)
  refine gz hK8 U (.assign rfl .nil) fun Y U =>?_
  refine rtd (retCT (fn := Tryz.f89) U m60 (i := 22) rfl rfl rfl rfl U51 rfl fct13 ?_)
  exact ⟨ne,hi,fl,(ws ++ [((ws.length : Int) + 1,items)]),0,_,_,rfl,by rw [doR,if_pos (by omega),putR,if_neg (by simp_all),wrR,if_pos (hib.1 (by simp_all))],m60.ren [(1,1),(2,2),(3,3),(4,4),(7,23)] (by decide)⟩
 intro hb12 U; try simp only [QQ,Qax] at hb12
 refine wcf U ?_
 refine regS U (.eql rfl rfl<|.assign rfl .nil) fun Y U =>?_
 refine bc U 10 ?_ ?_
 ·
  intro hb64 U; try simp only [QQ,Qax] at hb64
  refine wct U ?_
  refine zss (hK2 _ _ ?_)
  refine wct U ?_
  replace U := U.oz [2,3,4,5,10]
  refine regS U (.fa 7 rfl U51<|.lb m6 20 U4 rfl rfl rfl .nil) fun Y U =>?_
  refine bc U 16 ?_ ?_
  ·
   intro hb68 U; try simp only [QQ,Qax] at hb68
   refine wct U ?_
   refine zsr fun K9 hK9 =>?_
   refine goCh U (.loadBR m6 (i := 20) rfl rfl U51 rfl fct13 (by simp) (by dsimp only [List.drop,List.take] <;> rfl) .nil) fun Y U =>?_
   refine plz (stw U m6 22 fct13 fun w71 m71 _ =>?_)
   refine gz hK9 U (.assign rfl .nil) fun Y U =>?_
   refine rtd (retCT (fn := Tryz.f89) U m71 (i := 22) rfl rfl rfl rfl U51 rfl fct13 ?_)
   have m73 := m71.dat 23 rfl (m71.rd (i := 3) rfl)
   exact ⟨ne,hi,fl,ws,28,_,_,rfl,by rw [doR,if_neg (by omega),if_pos (by omega),pruneR]; simp_all [reachR],m73.ren [(1,1),(2,2),(3,3),(4,4),(7,23)] (by decide)⟩
  intro hb68 U; try simp only [QQ,Qax] at hb68
  refine wcf U ?_
  refine zss (hK1 _ _ ?_)
  refine wsk fun K10 hK10 =>?_
  refine regS U (.fa 0 rfl U38<|.lb m6 21 U3 rfl rfl rfl .nil) fun Y U =>?_
  refine wp_block ?_
  refine regS U (.eql rfl rfl<|.assign rfl .nil) fun Y U =>?_
  refine bc U 21 ?_ ?_
  · intro hb _; exact absurd hb (by simp; omega)
  clear U; intro _ U
  refine wcf U ?_
  refine regS U (.eql rfl rfl<|.assign rfl .nil) fun Y U =>?_
  refine bc U 36 ?_ ?_
  rotate_left
  · intro hb _; exact absurd hb (by simp; omega)
  clear U; intro _ U
  refine wct U ?_
  refine wsk fun K11 hK11 =>?_
  refine regS U (.fa 7 rfl U38<|.lb m6 21 U2 rfl rfl rfl<|.fa 8 rfl U51<|.lb m6 20 U2 rfl rfl rfl<|.lss rfl rfl .nil) fun Y U =>?_
  refine bc U 42 ?_ ?_
  ·
   intro hb87 U; try simp only [QQ,Qax] at hb87
   refine wct U ?_
   replace U := U.oz [2,3,4,5,10,16,19,21,36,42]
   refine zsr fun K12 hK12 =>?_
   refine goCh U (.loadBR m6 (i := 20) rfl rfl U51 rfl fct13 (by simp) (by dsimp only [List.drop,List.take] <;> rfl) .nil) fun Y U =>?_
   refine plz (stw U m6 22 fct13 fun w91 m91 _ =>?_)
   refine gz hK12 U (.assign rfl .nil) fun Y U =>?_
   refine rtd (retCT (fn := Tryz.f89) U m91 (i := 22) rfl rfl rfl rfl U51 rfl fct13 ?_)
   have m93 := m91.dat 23 rfl (m91.rd (i := 3) rfl)
   exact ⟨ne,hi,fl,ws,30,_,_,rfl,by rw [doR,if_neg (by omega),if_pos (by omega),pruneR]; rw [show reachR hi fl at0 (lowL ws.length pins) = 30 from by rw [reachR,if_neg (by simp_all),if_pos (by omega)]]; rfl,m93.ren [(1,1),(2,2),(3,3),(4,4),(7,23)] (by decide)⟩
  intro hb87 U; try simp only [QQ,Qax] at hb87
  refine wcf U ?_
  refine zss (hK11 _ _ ?_)
  refine wsk fun K13 hK13 =>?_
  refine wsk fun K14 hK14 =>?_
  replace U := U.oz [2,3,4,5,10,16,19,21,36,42]
  have m95 := m6.oz [1,2,3,4,20,21,22]
  refine region_p 5 (B := [(1,_),(2,_),(3,_),(4,_),(20,_),(21,_),(22,_)]) (m95.to ⟨il,il,il,il,il,il,il,trivial⟩) m95 (by kernel_rfl) (fun w96 hP96 m96 =>?_); clear m95
  refine goR hP96 [0,1,2] [1,2] 3 0 7 U (m96.to ⟨il,il,il,il,il,il,il,trivial⟩) (.fa 7 rfl U38<|.lb hh 21 U2 rfl rfl rfl<|.loadBR hh (i := 20) rfl rfl U51 rfl fct13 (by simp) (by dsimp only [List.drop,List.take] <;> rfl) .nil) fun Y U =>?_
  refine stepE_only 3 rfl (by kernel_rfl) rfl (fun K hK =>?_)
  refine e_call U Tryz.func130 rfl rfl rfl rfl (rlow_any _ _ _ _ _ _ _ _ pins _ _ _ _ _ _ _ _ _ ((m96.rd (i := 2) rfl).any) hp) ?_
  rintro e w100 ⟨rfl,hb100⟩
  rw [List.length_map]
  have m101 := m96.later hb100
  refine ⟨_,rfl,?_⟩; intro Y U
  refine hK _ _ (m101.to ⟨il,il,il,il,il,il,il,trivial⟩) ?_; clear hK K
  refine goA hP96 [4] 1 15 31 U (m101.to ⟨il,il,il,il,il,il,il,trivial⟩) (.gtr rfl rfl .nil) fun Y U =>?_
  refine wpAnyE_done (by kernel_rfl) ?_ _
  refine hK14 _ _ ?_
  refine bc U 48 ?_ ?_
  ·
   intro hb104 U; try simp only [QQ,Qax] at hb104
   refine wct U ?_
   refine zsr fun K15 hK15 =>?_
   refine goCh U (.loadBR m101 (i := 20) rfl rfl U51 rfl fct13 (by simp) (by dsimp only [List.drop,List.take] <;> rfl) .nil) fun Y U =>?_
   refine plz (stw U m101 22 fct13 fun w107 m107 _ =>?_)
   refine gz hK15 U (.assign rfl .nil) fun Y U =>?_
   refine rtd (retCT (fn := Tryz.f89) U m107 (i := 22) rfl rfl rfl rfl U51 rfl fct13 ?_)
   have m109 := m107.dat 23 rfl (m107.rd (i := 3) rfl)
   exact ⟨ne,hi,fl,ws,31,_,_,rfl,by rw [doR,if_neg (by omega),if_pos (by omega),pruneR]; rw [show reachR hi fl at0 (lowL ws.length pins) = 31 from by rw [reachR,if_neg (by simp_all),if_neg (by omega),if_pos (by omega)]]; rfl,m109.ren [(1,1),(2,2),(3,3),(4,4),(7,23)] (by decide)⟩
  intro hb104 U; try simp only [QQ,Qax] at hb104
  refine wcf U ?_
  refine zss (hK13 _ _ ?_)
  refine wp_region_lit ?_
  refine goCh U (.fa 7 rfl U38<|.lb m101 21 U2 rfl rfl rfl<|.fa 8 rfl U51 .nil) fun Y U =>?_
  refine plz (st1 U m101 20 fct22 fun w113 m113 _ =>?_)
  refine znl (hK10 _ _ ?_)
  replace U := U.oz [2,4,5,10,16,21,36,42,48,51]
  refine zsr fun K16 hK16 =>?_
  refine goCh U (.loadBR m113 (i := 20) rfl rfl U51 rfl fct13 (by simp) (by dsimp only [List.drop,List.take] <;> rfl) .nil) fun Y U =>?_
  refine plz (stw U m113 22 fct13 fun w117 m117 _ =>?_)
  refine gz hK16 U (.assign rfl .nil) fun Y U =>?_
  refine rtd (retCT (fn := Tryz.f89) U m117 (i := 22) rfl rfl rfl rfl U51 rfl fct13 ?_)
  have m119 := m117.dat 23 rfl (m117.rd (i := 3) rfl)
  exact ⟨ne,hi,at0,ws,0,_,_,rfl,by rw [doR,if_neg (by omega),if_pos (by omega),pruneR]; rw [show reachR hi fl at0 (lowL ws.length pins) = 0 from by rw [reachR,if_neg (by simp_all),if_neg (by omega),if_neg (by omega)]]; rfl,m119.ren [(1,1),(2,2),(3,3),(4,4),(7,23)] (by decide)⟩
 intro hb64 U; try simp only [QQ,Qax] at hb64
 refine wcf U ?_
 refine regS U (.eql rfl rfl<|.assign rfl .nil) fun Y U =>?_
 refine bc U 10 ?_ ?_
 · intro hb _; exact absurd hb (by simp; omega)
 clear U; intro _ U
 refine wcf U ?_
 replace U := U.oz [2,3,4,5,9,10]
 refine wp_region_lit ?_
 refine gz hK2 U (.eql rfl rfl<|.assign rfl<|.nil) fun Y U =>?_
 refine bc U 10 ?_ ?_
 · intro hb _; exact absurd hb (by simp; omega)
 clear U; intro _ U
 refine wcf U ?_
 refine zss (hK1 _ _ ?_)
 refine wsk fun K17 hK17 =>?_
 refine regS U (.fa 0 rfl U38<|.lb m6 21 U3 rfl rfl rfl .nil) fun Y U =>?_
 refine wp_block ?_
 refine regS U (.eql rfl rfl<|.assign rfl .nil) fun Y U =>?_
 refine bc U 21 ?_ ?_
 · intro hb _; exact absurd hb (by simp; omega)
 clear U; intro _ U
 refine wcf U ?_
 refine regS U (.eql rfl rfl<|.assign rfl .nil) fun Y U =>?_
 refine bc U 36 ?_ ?_
 · intro hb _; exact absurd hb (by simp; omega)
 clear U; intro _ U
 refine wcf U ?_
 refine regS U (.eql rfl rfl<|.assign rfl .nil) fun Y U =>?_
 refine bc U 53 ?_ ?_
 · intro hb _; exact absurd hb (by simp; omega)
 clear U; intro _ U
 refine wcf U ?_
 replace U := U.oz [2,3,4,5,10,19,21,36]
 refine regS U (.eql rfl rfl<|.assign rfl .nil) fun Y U =>?_
 refine bc U 99 ?_ ?_
 · intro hb _; exact absurd hb (by simp; omega)
 clear U; intro _ U
 refine wcf U ?_
 refine regS U (.eql rfl rfl<|.assign rfl .nil) fun Y U =>?_
 refine bc U 130 ?_ ?_
 ·
  intro hb144 U; try simp only [QQ,Qax] at hb144
  refine wct U ?_
  refine wsk fun K18 hK18 =>?_
  refine regS U (.fa 7 rfl U51<|.lb m6 20 U4 rfl rfl rfl<|.not rfl .nil) fun Y U =>?_
  refine bc U 134 ?_ ?_
  ·
   intro hb148 U; try simp only [QQ,Qax] at hb148
   refine wct U ?_
   refine zsr fun K19 hK19 =>?_
   refine goCh U (.loadBR m6 (i := 20) rfl rfl U51 rfl fct13 (by simp) (by dsimp only [List.drop,List.take] <;> rfl) .nil) fun Y U =>?_
   refine plz (stw U m6 22 fct13 fun w151 m151 _ =>?_)
   refine gz hK19 U (.assign rfl .nil) fun Y U =>?_
   refine rtd (retCT (fn := Tryz.f89) U m151 (i := 22) rfl rfl rfl rfl U51 rfl fct13 ?_)
   have m153 := m151.dat 23 rfl (m151.rd (i := 3) rfl)
   exact ⟨ne,hi,fl,ws,33,_,_,rfl,by rw [doR,if_neg (by omega),if_neg (by omega),if_pos (by omega),takeR,if_pos (by simp_all)],m153.ren [(1,1),(2,2),(3,3),(4,4),(7,23)] (by decide)⟩
  intro hb148 U; try simp only [QQ,Qax] at hb148
  refine wcf U ?_
  refine zss (hK18 _ _ ?_)
  refine wsk fun K20 hK20 =>?_
  refine zsr fun K21 hK21 =>?_
  refine goCh U (.fa 8 rfl U38<|.lb m6 21 U3 rfl rfl rfl<|.geq rfl rfl<|.move rfl .nil) fun Y U =>?_
  refine bc U 139 ?_ ?_
  ·
   intro hb162 U; try simp only [QQ,Qax] at hb162
   refine gz hK21 U (.faZ 8 rfl U38<|.loadB1Z m6 (i := 21) rfl rfl rfl U3 rfl<|.faZ 6 rfl U51<|.loadB1Z m6 (i := 20) rfl rfl rfl U3 rfl<|.lssZ rfl rfl<|.pickT rfl rfl<|.nil) fun Y U =>?_
   refine bc U 145 ?_ ?_
   ·
    intro hb169 U; try simp only [QQ,Qax] at hb169
    refine wct U ?_
    replace U := U.oz [2,3,4,5,10,19,21,36,130,134,139,145]
    refine zsr fun K22 hK22 =>?_
    refine goCh U (.loadBR m6 (i := 20) rfl rfl U51 rfl fct13 (by simp) (by dsimp only [List.drop,List.take] <;> rfl) .nil) fun Y U =>?_
    refine plz (stw U m6 22 fct13 fun w173 m173 _ =>?_)
    refine gz hK22 U (.assign rfl .nil) fun Y U =>?_
    refine rtd (retCT (fn := Tryz.f89) U m173 (i := 22) rfl rfl rfl rfl U51 rfl fct13 ?_)
    have m175 := m173.dat 23 rfl (m173.rd (i := 3) rfl)
    exact ⟨ne,hi,fl,ws,0,_,_,rfl,by rw [doR,if_neg (by omega),if_neg (by omega),if_pos (by omega),takeR,if_neg (by simp_all),if_pos (by omega)],m175.ren [(1,1),(2,2),(3,3),(4,4),(7,23)] (by decide)⟩
   intro hb169 U; try simp only [QQ,Qax] at hb169
   refine wcf U ?_
   refine zss (hK20 _ _ ?_)
   refine wsk fun K23 hK23 =>?_
   replace U := U.oz [2,3,4,5,10,19,21,36,130,134,139,145]
   refine zsr fun K24 hK24 =>?_
   refine goCh U (.fa 8 rfl U38<|.lb m6 21 U3 rfl rfl rfl<|.fa 6 rfl U51<|.lb m6 20 U3 rfl rfl rfl<|.neq rfl rfl<|.move rfl .nil) fun Y U =>?_
   refine bc U 152 ?_ ?_
   ·
    intro hb189 U; try simp only [QQ,Qax] at hb189
    refine gz hK24 U (.sk<|.sk<|.sk<|.sk<|.sk<|.pickT rfl rfl<|.nil) fun Y U =>?_
    refine wct U ?_
    replace U := U.oz [2,3,4,5,10,19,21,36,130,134,139,145,152,158]
    refine zsr fun K25 hK25 =>?_
    refine goCh U (.loadBR m6 (i := 20) rfl rfl U51 rfl fct13 (by simp) (by dsimp only [List.drop,List.take] <;> rfl) .nil) fun Y U =>?_
    refine plz (stw U m6 22 fct13 fun w199 m199 _ =>?_)
    refine gz hK25 U (.assign rfl .nil) fun Y U =>?_
    refine rtd (retCT (fn := Tryz.f89) U m199 (i := 22) rfl rfl rfl rfl U51 rfl fct13 ?_)
    have m201 := m199.dat 23 rfl (m199.rd (i := 3) rfl)
    exact ⟨ne,hi,fl,ws,33,_,_,rfl,by rw [doR,if_neg (by omega),if_neg (by omega),if_pos (by omega),takeR,if_neg (by simp_all),if_neg (by omega),if_pos (by omega)],m201.ren [(1,1),(2,2),(3,3),(4,4),(7,23)] (by decide)⟩
   intro hb189 U; try simp only [QQ,Qax] at hb189
   refine gz hK24 U (.faZ 6 rfl U51<|.loadB1Z m6 (i := 20) rfl rfl rfl U3 rfl<|.faZ 5 rfl U51<|.loadB1Z m6 (i := 20) rfl rfl rfl U3 rfl<|.eqlZ rfl rfl<|.pickF rfl rfl<|.nil) fun Y U =>?_
   refine bc U 158 ?_ ?_
   ·
    intro hb208 U; try simp only [QQ,Qax] at hb208
    refine wct U ?_
    replace U := U.oz [2,3,4,5,10,19,21,36,130,134,139,145,152,158]
    refine zsr fun K26 hK26 =>?_
    refine goCh U (.loadBR m6 (i := 20) rfl rfl U51 rfl fct13 (by simp) (by dsimp only [List.drop,List.take] <;> rfl) .nil) fun Y U =>?_
    refine plz (stw U m6 22 fct13 fun w212 m212 _ =>?_)
    refine gz hK26 U (.assign rfl .nil) fun Y U =>?_
    refine rtd (retCT (fn := Tryz.f89) U m212 (i := 22) rfl rfl rfl rfl U51 rfl fct13 ?_)
    have m214 := m212.dat 23 rfl (m212.rd (i := 3) rfl)
    exact ⟨ne,hi,fl,ws,33,_,_,rfl,by rw [doR,if_neg (by omega),if_neg (by omega),if_pos (by omega),takeR,if_neg (by simp_all),if_neg (by omega),if_pos (by omega)],m214.ren [(1,1),(2,2),(3,3),(4,4),(7,23)] (by decide)⟩
   intro hb208 U; try simp only [QQ,Qax] at hb208
   refine wcf U ?_
   refine zss (hK23 _ _ ?_)
   refine wsk fun K27 hK27 =>?_
   replace U := U.oz [2,3,4,5,10,19,21,36,130,134,139,145,152,158]
   refine zsr fun K28 hK28 =>?_
   refine goCh U (.fa 1 rfl U51<|.lb m6 20 U3 rfl rfl rfl<|.fa 2 rfl U51<|.lb m6 20 U3 rfl rfl rfl<|.fa 9 rfl U38<|.lb m6 21 U36 rfl rfl rfl .nil) fun Y U =>?_
   refine plz (ecl U Tryz.func115 rfl (ritems_any _ _ items _ _ _ _ ((m6.rd (i := 4) rfl).any) hil) ?_)
   rintro e w228 ⟨ib,rfl,hib,hb228⟩
   have m229 := m6.later hb228
   refine ⟨_,rfl,?_⟩; intro Y U
   refine gz hK28 U (.not rfl .nil) fun Y U =>?_
   refine bc U 167 ?_ ?_
   ·
    intro hb232 U; try simp only [QQ,Qax] at hb232
    refine wct U ?_
    replace U := U.oz [2,3,4,5,10,19,21,36,130,134,139,145,152,158,167]
    refine zsr fun K29 hK29 =>?_
    refine goCh U (.loadBR m229 (i := 20) rfl rfl U51 rfl fct13 (by simp) (by dsimp only [List.drop,List.take] <;> rfl) .nil) fun Y U =>?_
    refine plz (stw U m229 22 fct13 fun w236 m236 _ =>?_)
    refine gz hK29 U (.assign rfl .nil) fun Y U =>?_
    refine rtd (retCT (fn := Tryz.f89) U m236 (i := 22) rfl rfl rfl rfl U51 rfl fct13 ?_)
    have m238 := m236.dat 23 rfl (m236.rd (i := 3) rfl)
    exact ⟨ne,hi,fl,ws,23,_,_,rfl,by rw [doR,if_neg (by omega),if_neg (by omega),if_pos (by omega),takeR,if_neg (by simp_all),if_neg (by omega),if_neg (by omega),show wrR bl sz ws items = (ws,23) from by rw [wrR,if_neg (fun h => by have h9 := hib.2 h; simp_all)]]; rfl,m238.ren [(1,1),(2,2),(3,3),(4,4),(7,23)] (by decide)⟩
   intro hb232 U; try simp only [QQ,Qax] at hb232
   refine wcf U ?_
   refine zss (hK27 _ _ ?_)
   replace U := U.oz [2,3,4,5,10,19,21,36,130,134,139,145,152,158,167]
   refine zsr fun K30 hK30 =>?_
   refine goCh U (.loadBR m229 (i := 20) rfl rfl U51 rfl fct13 (by simp) (by dsimp only [List.drop,List.take] <;> rfl)<|.fa 9 rfl U38<|.lb m229 21 U36 rfl rfl rfl .nil) fun Y U =>?_
   refine plz (ecl U Tryz.func129 rfl (rwrite_fr _ _ _ _ _ _ _ _ _ place pins ws items _ _ _ _ _ _ _ _ _ hl hil hio (m229.into [(1,1),(2,2),(3,3),(4,4)] (by decide) rfl)) ?_)
   rintro e w246 ⟨p246,c246,rfl,hm246⟩
   have mx246 := m229.back hm246 [(1,1),(2,2),(3,3),(4,4),(23,7)] (by decide); clear hm246 m229
   have m246 := mx246.oz [1,2,3,4,23,20,21,22]
   refine ⟨_,rfl,?_⟩; intro Y U
   refine plz (stw U m246 20 fct13 fun w248 m248 _ =>?_)
   refine znl (hK30 _ _ ?_)
   refine wp_region_lit ?_
   refine goCh U (.fa 6 rfl U51<|.lb m248 20 U3 rfl rfl rfl<|.add rfl rfl (r := ne + 1) (IntWalk.i64_in _ (by omega))<|.fa 6 rfl U51 .nil) fun Y U =>?_
   refine plz (st1 U m248 20 fct17 fun w253 m253 _ =>?_)
   refine znl (hK17 _ _ ?_)
   replace U := U.oz [2,4,5,10,21,36,130,134,139,145,152,158,167]
   refine zsr fun K31 hK31 =>?_
   refine goCh U (.loadBR m253 (i := 20) rfl rfl U51 rfl fct13 (by simp) (by dsimp only [List.drop,List.take] <;> rfl) .nil) fun Y U =>?_
   refine plz (stw U m253 22 fct13 fun w257 m257 _ =>?_)
   refine gz hK31 U (.assign rfl .nil) fun Y U =>?_
   refine rtd (retCT (fn := Tryz.f89) U m257 (i := 22) rfl rfl rfl rfl U51 rfl fct13 ?_)
   exact ⟨(ne + 1),hi,fl,(ws ++ [((ws.length : Int) + 1,items)]),0,_,_,rfl,by rw [doR,if_neg (by omega),if_neg (by omega),if_pos (by omega),takeR,if_neg (by simp_all),if_neg (by omega),if_neg (by omega),show wrR bl sz ws items = ((ws ++ [((ws.length : Int) + 1,items)]),0) from by rw [wrR,if_pos (hib.1 (by simp_all))]]; rfl,m257.ren [(1,1),(2,2),(3,3),(4,4),(7,23)] (by decide)⟩
  intro hb162 U; try simp only [QQ,Qax] at hb162
  refine gz hK21 U (.sk<|.sk<|.sk<|.sk<|.sk<|.pickF rfl rfl<|.nil) fun Y U =>?_
  refine wcf U ?_
  refine zss (hK20 _ _ ?_)
  refine wsk fun K32 hK32 =>?_
  replace U := U.oz [2,3,4,5,10,19,21,36,130,134,139,145]
  refine zsr fun K33 hK33 =>?_
  refine goCh U (.fa 8 rfl U38<|.lb m6 21 U3 rfl rfl rfl<|.fa 6 rfl U51<|.lb m6 20 U3 rfl rfl rfl<|.neq rfl rfl<|.move rfl .nil) fun Y U =>?_
  refine bc U 152 ?_ ?_
  ·
   intro hb278 U; try simp only [QQ,Qax] at hb278
   refine gz hK33 U (.sk<|.sk<|.sk<|.sk<|.sk<|.pickT rfl rfl<|.nil) fun Y U =>?_
   refine wct U ?_
   replace U := U.oz [2,3,4,5,10,19,21,36,130,134,139,145,152,158]
   refine zsr fun K34 hK34 =>?_
   refine goCh U (.loadBR m6 (i := 20) rfl rfl U51 rfl fct13 (by simp) (by dsimp only [List.drop,List.take] <;> rfl) .nil) fun Y U =>?_
   refine plz (stw U m6 22 fct13 fun w288 m288 _ =>?_)
   refine gz hK34 U (.assign rfl .nil) fun Y U =>?_
   refine rtd (retCT (fn := Tryz.f89) U m288 (i := 22) rfl rfl rfl rfl U51 rfl fct13 ?_)
   have m290 := m288.dat 23 rfl (m288.rd (i := 3) rfl)
   exact ⟨ne,hi,fl,ws,33,_,_,rfl,by rw [doR,if_neg (by omega),if_neg (by omega),if_pos (by omega),takeR,if_neg (by simp_all),if_neg (by omega),if_pos (by omega)],m290.ren [(1,1),(2,2),(3,3),(4,4),(7,23)] (by decide)⟩
  intro hb278 U; try simp only [QQ,Qax] at hb278
  refine gz hK33 U (.faZ 6 rfl U51<|.loadB1Z m6 (i := 20) rfl rfl rfl U3 rfl<|.faZ 5 rfl U51<|.loadB1Z m6 (i := 20) rfl rfl rfl U3 rfl<|.eqlZ rfl rfl<|.pickF rfl rfl<|.nil) fun Y U =>?_
  refine bc U 158 ?_ ?_
  ·
   intro hb297 U; try simp only [QQ,Qax] at hb297
   refine wct U ?_
   replace U := U.oz [2,3,4,5,10,19,21,36,130,134,139,145,152,158]
   refine zsr fun K35 hK35 =>?_
   refine goCh U (.loadBR m6 (i := 20) rfl rfl U51 rfl fct13 (by simp) (by dsimp only [List.drop,List.take] <;> rfl) .nil) fun Y U =>?_
   refine plz (stw U m6 22 fct13 fun w301 m301 _ =>?_)
   refine gz hK35 U (.assign rfl .nil) fun Y U =>?_
   refine rtd (retCT (fn := Tryz.f89) U m301 (i := 22) rfl rfl rfl rfl U51 rfl fct13 ?_)
   have m303 := m301.dat 23 rfl (m301.rd (i := 3) rfl)
   exact ⟨ne,hi,fl,ws,33,_,_,rfl,by rw [doR,if_neg (by omega),if_neg (by omega),if_pos (by omega),takeR,if_neg (by simp_all),if_neg (by omega),if_pos (by omega)],m303.ren [(1,1),(2,2),(3,3),(4,4),(7,23)] (by decide)⟩
  intro hb297 U; try simp only [QQ,Qax] at hb297
  refine wcf U ?_
  refine zss (hK32 _ _ ?_)
  refine wsk fun K36 hK36 =>?_
  replace U := U.oz [2,3,4,5,10,19,21,36,130,134,139,145,152,158]
  refine zsr fun K37 hK37 =>?_
  refine goCh U (.fa 1 rfl U51<|.lb m6 20 U3 rfl rfl rfl<|.fa 2 rfl U51<|.lb m6 20 U3 rfl rfl rfl<|.fa 9 rfl U38<|.lb m6 21 U36 rfl rfl rfl .nil) fun Y U =>?_
  refine plz (ecl U Tryz.func115 rfl (ritems_any _ _ items _ _ _ _ ((m6.rd (i := 4) rfl).any) hil) ?_)
  rintro e w317 ⟨ib,rfl,hib,hb317⟩
  have m318 := m6.later hb317
  refine ⟨_,rfl,?_⟩; intro Y U
  refine gz hK37 U (.not rfl .nil) fun Y U =>?_
  refine bc U 167 ?_ ?_
  ·
   intro hb321 U; try simp only [QQ,Qax] at hb321
   refine wct U ?_
   replace U := U.oz [2,3,4,5,10,19,21,36,130,134,139,145,152,158,167]
   refine zsr fun K38 hK38 =>?_
   refine goCh U (.loadBR m318 (i := 20) rfl rfl U51 rfl fct13 (by simp) (by dsimp only [List.drop,List.take] <;> rfl) .nil) fun Y U =>?_
   refine plz (stw U m318 22 fct13 fun w325 m325 _ =>?_)
   refine gz hK38 U (.assign rfl .nil) fun Y U =>?_
   refine rtd (retCT (fn := Tryz.f89) U m325 (i := 22) rfl rfl rfl rfl U51 rfl fct13 ?_)
   have m327 := m325.dat 23 rfl (m325.rd (i := 3) rfl)
   exact ⟨ne,hi,fl,ws,23,_,_,rfl,by rw [doR,if_neg (by omega),if_neg (by omega),if_pos (by omega),takeR,if_neg (by simp_all),if_neg (by omega),if_neg (by omega),show wrR bl sz ws items = (ws,23) from by rw [wrR,if_neg (fun h => by have h9 := hib.2 h; simp_all)]]; rfl,m327.ren [(1,1),(2,2),(3,3),(4,4),(7,23)] (by decide)⟩
  intro hb321 U; try simp only [QQ,Qax] at hb321
  refine wcf U ?_
  refine zss (hK36 _ _ ?_)
  replace U := U.oz [2,3,4,5,10,19,21,36,130,134,139,145,152,158,167]
  refine zsr fun K39 hK39 =>?_
  refine goCh U (.loadBR m318 (i := 20) rfl rfl U51 rfl fct13 (by simp) (by dsimp only [List.drop,List.take] <;> rfl)<|.fa 9 rfl U38<|.lb m318 21 U36 rfl rfl rfl .nil) fun Y U =>?_
  refine plz (ecl U Tryz.func129 rfl (rwrite_fr _ _ _ _ _ _ _ _ _ place pins ws items _ _ _ _ _ _ _ _ _ hl hil hio (m318.into [(1,1),(2,2),(3,3),(4,4)] (by decide) rfl)) ?_)
  rintro e w335 ⟨p335,c335,rfl,hm335⟩
  have mx335 := m318.back hm335 [(1,1),(2,2),(3,3),(4,4),(23,7)] (by decide); clear hm335 m318
  have m335 := mx335.oz [1,2,3,4,23,20,21,22]
  refine ⟨_,rfl,?_⟩; intro Y U
  refine plz (stw U m335 20 fct13 fun w337 m337 _ =>?_)
  refine znl (hK39 _ _ ?_)
  refine wp_region_lit ?_
  refine goCh U (.fa 6 rfl U51<|.lb m337 20 U3 rfl rfl rfl<|.add rfl rfl (r := ne + 1) (IntWalk.i64_in _ (by omega))<|.fa 6 rfl U51 .nil) fun Y U =>?_
  refine plz (st1 U m337 20 fct17 fun w342 m342 _ =>?_)
  refine znl (hK17 _ _ ?_)
  replace U := U.oz [2,4,5,10,21,36,130,134,139,145,152,158,167]
  refine zsr fun K40 hK40 =>?_
  refine goCh U (.loadBR m342 (i := 20) rfl rfl U51 rfl fct13 (by simp) (by dsimp only [List.drop,List.take] <;> rfl) .nil) fun Y U =>?_
  refine plz (stw U m342 22 fct13 fun w346 m346 _ =>?_)
  refine gz hK40 U (.assign rfl .nil) fun Y U =>?_
  refine rtd (retCT (fn := Tryz.f89) U m346 (i := 22) rfl rfl rfl rfl U51 rfl fct13 ?_)
  exact ⟨(ne + 1),hi,fl,(ws ++ [((ws.length : Int) + 1,items)]),0,_,_,rfl,by rw [doR,if_neg (by omega),if_neg (by omega),if_pos (by omega),takeR,if_neg (by simp_all),if_neg (by omega),if_neg (by omega),show wrR bl sz ws items = ((ws ++ [((ws.length : Int) + 1,items)]),0) from by rw [wrR,if_pos (hib.1 (by simp_all))]]; rfl,m346.ren [(1,1),(2,2),(3,3),(4,4),(7,23)] (by decide)⟩
 intro hb144 U; try simp only [QQ,Qax] at hb144
 refine wcf U ?_
 refine regS U (.eql rfl rfl<|.assign rfl .nil) fun Y U =>?_
 refine bc U 177 ?_ ?_
 ·
  intro hb350 U; try simp only [QQ,Qax] at hb350
  refine wct U ?_
  refine wsk fun K41 hK41 =>?_
  refine zsr fun K42 hK42 =>?_
  refine goCh U (.fa 7 rfl U51<|.lb m6 20 U4 rfl rfl rfl<|.not rfl<|.move rfl .nil) fun Y U =>?_
  refine bc U 182 ?_ ?_
  ·
   intro hb359 U; try simp only [QQ,Qax] at hb359
   refine gz hK42 U (.sk<|.sk<|.sk<|.sk<|.sk<|.pickT rfl rfl<|.nil) fun Y U =>?_
   refine wct U ?_
   replace U := U.oz [2,4,5,10,19,21,36,130,177,182,188]
   refine zsr fun K43 hK43 =>?_
   refine goCh U (.loadBR m6 (i := 20) rfl rfl U51 rfl fct13 (by simp) (by dsimp only [List.drop,List.take] <;> rfl) .nil) fun Y U =>?_
   refine plz (stw U m6 22 fct13 fun w369 m369 _ =>?_)
   refine gz hK43 U (.assign rfl .nil) fun Y U =>?_
   refine rtd (retCT (fn := Tryz.f89) U m369 (i := 22) rfl rfl rfl rfl U51 rfl fct13 ?_)
   have m371 := m369.dat 23 rfl (m369.rd (i := 3) rfl)
   exact ⟨ne,hi,fl,ws,33,_,_,rfl,by rw [doR,if_neg (by omega),if_neg (by omega),if_neg (by omega),if_pos (by omega),publishR,if_pos (by first | (left; simp_all; done) | (right; assumption) | omega)],m371.ren [(1,1),(2,2),(3,3),(4,4),(7,23)] (by decide)⟩
  intro hb359 U; try simp only [QQ,Qax] at hb359
  refine gz hK42 U (.faZ 6 rfl U51<|.loadB1Z m6 (i := 20) rfl rfl rfl U3 rfl<|.faZ 5 rfl U51<|.loadB1Z m6 (i := 20) rfl rfl rfl U3 rfl<|.neqZ rfl rfl<|.pickF rfl rfl<|.nil) fun Y U =>?_
  refine bc U 188 ?_ ?_
  ·
   intro hb378 U; try simp only [QQ,Qax] at hb378
   refine wct U ?_
   replace U := U.oz [2,4,5,10,19,21,36,130,177,182,188]
   refine zsr fun K44 hK44 =>?_
   refine goCh U (.loadBR m6 (i := 20) rfl rfl U51 rfl fct13 (by simp) (by dsimp only [List.drop,List.take] <;> rfl) .nil) fun Y U =>?_
   refine plz (stw U m6 22 fct13 fun w382 m382 _ =>?_)
   refine gz hK44 U (.assign rfl .nil) fun Y U =>?_
   refine rtd (retCT (fn := Tryz.f89) U m382 (i := 22) rfl rfl rfl rfl U51 rfl fct13 ?_)
   have m384 := m382.dat 23 rfl (m382.rd (i := 3) rfl)
   exact ⟨ne,hi,fl,ws,33,_,_,rfl,by rw [doR,if_neg (by omega),if_neg (by omega),if_neg (by omega),if_pos (by omega),publishR,if_pos (by first | (left; simp_all; done) | (right; assumption) | omega)],m384.ren [(1,1),(2,2),(3,3),(4,4),(7,23)] (by decide)⟩
  intro hb378 U; try simp only [QQ,Qax] at hb378
  refine wcf U ?_
  refine zss (hK41 _ _ ?_)
  replace U := U.oz [2,4,5,10,19,21,36,130,177,182,188]
  refine wp_region_lit ?_
  refine goCh U (.loadBR m6 (i := 20) rfl rfl U51 rfl fct13 (by simp) (by dsimp only [List.drop,List.take] <;> rfl) .nil) fun Y U =>?_
  refine wpList_plain rfl (fun K hK =>?_)
  refine e_call U Tryz.func39 rfl rfl rfl rfl (rlen_any _ _ _ _ _ _ _ _ _ _ _ _ _ _ _ _ _ _) ?_
  rintro e w387 ⟨rfl,hb387⟩
  rw [List.length_map]
  have m388 := m6.later hb387
  refine ⟨_,rfl,?_⟩; intro Y U
  refine hK _ _ ?_; clear hK
  refine goCh U (.fieldAddr (off := 7) rfl U51 rfl (s := 0) (by kernel_rfl) rfl .nil) fun Y U =>?_
  refine plz (st1 U m388 20 fct34 fun w391 m391 _ =>?_)
  refine goCh U (.fieldAddr (off := 8) rfl U51 rfl (s := 0) (by kernel_rfl) rfl .nil) fun Y U =>?_
  refine plz (st1 U m391 20 fct22 fun w393 m393 _ =>?_)
  refine znl (hK17 _ _ ?_)
  refine zsr fun K45 hK45 =>?_
  refine goCh U (.loadBR m393 (i := 20) rfl rfl U51 rfl fct13 (by simp) (by dsimp only [List.drop,List.take] <;> rfl) .nil) fun Y U =>?_
  refine plz (stw U m393 22 fct13 fun w396 m396 _ =>?_)
  refine gz hK45 U (.assign rfl .nil) fun Y U =>?_
  refine rtd (retCT (fn := Tryz.f89) U m396 (i := 22) rfl rfl rfl rfl U51 rfl fct13 ?_)
  have m398 := m396.dat 23 rfl (m396.rd (i := 3) rfl)
  exact ⟨ne,false,ws.length,ws,0,_,_,rfl,by rw [doR,if_neg (by omega),if_neg (by omega),if_neg (by omega),if_pos (by omega),publishR,if_neg (by rintro (h | h) <;> simp_all)],m398.ren [(1,1),(2,2),(3,3),(4,4),(7,23)] (by decide)⟩
 intro hb350 U; try simp only [QQ,Qax] at hb350
 refine wcf U ?_
 refine regS U (.eql rfl rfl<|.assign rfl .nil) fun Y U =>?_
 refine bc U 194 ?_ ?_
 ·
  intro hb401 U; try simp only [QQ,Qax] at hb401
  refine wct U ?_
  refine zss (hK17 _ _ ?_)
  replace U := U.oz [2,4,5,10,21,36,130,177,194]
  refine zsr fun K46 hK46 =>?_
  refine goCh U (.loadBR m6 (i := 20) rfl rfl U51 rfl fct13 (by simp) (by dsimp only [List.drop,List.take] <;> rfl) .nil) fun Y U =>?_
  refine plz (stw U m6 22 fct13 fun w405 m405 _ =>?_)
  refine gz hK46 U (.assign rfl .nil) fun Y U =>?_
  refine rtd (retCT (fn := Tryz.f89) U m405 (i := 22) rfl rfl rfl rfl U51 rfl fct13 ?_)
  have m407 := m405.dat 23 rfl (m405.rd (i := 3) rfl)
  exact ⟨ne,hi,fl,ws,0,_,_,rfl,by rw [doR,if_neg (by omega),if_neg (by omega),if_neg (by omega),if_neg (by omega),if_pos (by omega)],m407.ren [(1,1),(2,2),(3,3),(4,4),(7,23)] (by decide)⟩
 intro hb401 U; try simp only [QQ,Qax] at hb401
 refine wcf U ?_
 replace U := U.oz [2,4,5,10,21,36,130,177,194]
 refine zsr fun K47 hK47 =>?_
 refine goCh U (.loadBR m6 (i := 20) rfl rfl U51 rfl fct13 (by simp) (by dsimp only [List.drop,List.take] <;> rfl) .nil) fun Y U =>?_
 refine plz (stw U m6 22 fct13 fun w411 m411 _ =>?_)
 refine gz hK47 U (.assign rfl .nil) fun Y U =>?_
 refine rtd (retCT (fn := Tryz.f89) U m411 (i := 22) rfl rfl rfl rfl U51 rfl fct13 ?_)
 have m413 := m411.dat 23 rfl (m411.rd (i := 3) rfl)
 exact ⟨ne,hi,fl,ws,23,_,_,rfl,by rw [doR,if_neg (by omega),if_neg (by omega),if_neg (by omega),if_neg (by omega),if_neg (by omega)],m413.ren [(1,1),(2,2),(3,3),(4,4),(7,23)] (by decide)⟩
theorem rdone4 (X : Cx) (vo bl sz pe to ne fl : Int) (hi : Bool) (place pins : List Int) (ws : List (Int × List (Int × List Int))) (pp pn pw : Option Addr) (cp cn9 cw : Nat) (v1 v2 v3 v4 v5 at0 v6 : Int) (q1 : Option Addr) (n1 c1 : Nat) (q2 : Option Addr) (n2 c2 : Nat) (w0 : World) (hp : pins.length ≤ 900000) (hsp : pins.Pairwise (· ≤ ·)) (m0 : MemOk X w0 [(1,.dat (.slice pp place.length cp) (.ns .i64 place)),(2,.dat (.slice pn pins.length cn9) (.ns .i64 pins)),(3,.dat (.slice pw (ws.map wrD).length cw) (.l 2 (ws.map wrD)))] w0) :
   Calls Tryz.prog 89 #[.agg #[.int .i64 vo,.int .i64 bl,.int .i64 sz,.int .i64 pe,.slice pp place.length cp,.int .i64 to,.int .i64 ne,.bool hi,.int .i64 fl,.slice pn pins.length cn9,.slice pw (ws.map wrD).length cw],.agg #[.int .i64 4,.int .i64 v1,.int .i64 v2,.int .i64 v3,.int .i64 v4,.slice q1 n1 c1,.int .i64 v5,.int .i64 at0,.int .i64 v6,.slice q2 n2 c2]] w0 fun e w' => ∃ (pins' : List Int) (e9 : Int) (p2' : Option Addr) (d2' : Nat),e = .returned (.tuple #[.agg #[.int .i64 vo,.int .i64 bl,.int .i64 sz,.int .i64 pe,.slice pp place.length cp,.int .i64 to,.int .i64 ne,.bool hi,.int .i64 fl,.slice p2' pins'.length d2',.slice pw (ws.map wrD).length cw],.int .i64 e9]) ∧ pinR hi fl at0 ws.length pins = (pins',e9) ∧ MemOk X w0 [(1,.dat (.slice pp place.length cp) (.ns .i64 place)),(2,.dat (.slice pn pins.length cn9) (.ns .i64 pins)),(3,.dat (.slice pw (ws.map wrD).length cw) (.l 2 (ws.map wrD))),(6,.dat (.slice p2' pins'.length d2') (.ns .i64 pins'))] w' := by
 refine ent2 Tryz.func89 rfl Tryz.ntmps89 fun Y U =>?_
 refine zsr fun K0 hK0 =>?_
 refine plz (e_box U m0 20 (cs := [_,_,_,_,_,_,_,_,_,_,_]) rfl rfl rfl fun g1 Y w2 U m2 _ _ =>?_)
 refine plz (e_box U m2 21 (cs := [_,_,_,_,_,_,_,_,_,_]) rfl rfl rfl fun g3 Y w4 U m4 _ _ =>?_)
 refine plz (e_alloc U m4 22 fct14 rfl fun g5 Y w6 U m6 _ _ =>?_)
 refine gz hK0 U (.assign rfl .nil) fun Y U =>?_
 refine wsk fun K1 hK1 =>?_
 refine regS U (.fa 0 rfl U38<|.lb m6 21 U3 rfl rfl rfl .nil) fun Y U =>?_
 refine wp_block ?_
 refine wsk fun K2 hK2 =>?_
 refine regS U (.eql rfl rfl<|.assign rfl .nil) fun Y U =>?_
 refine bc U 10 ?_ ?_
 · intro hb _; exact absurd hb (by simp)
 clear U; intro _ U
 refine wcf U ?_
 refine regS U (.eql rfl rfl<|.assign rfl .nil) fun Y U =>?_
 refine bc U 10 ?_ ?_
 · intro hb _; exact absurd hb (by simp)
 clear U; intro _ U
 refine wcf U ?_
 refine regS U (.eql rfl rfl<|.assign rfl .nil) fun Y U =>?_
 refine bc U 10 ?_ ?_
 rotate_left
 · intro hb _; exact absurd hb (by simp)
 clear U; intro _ U
 refine wct U ?_
 refine zss (hK2 _ _ ?_)
 refine wct U ?_
 replace U := U.oz [2,3,4,5]
 refine regS U (.fa 7 rfl U51<|.lb m6 20 U4 rfl rfl rfl .nil) fun Y U =>?_
 refine bc U 16 ?_ ?_
 ·
  intro hb22 U; try simp only [QQ,Qax] at hb22
  refine wct U ?_
  refine zsr fun K3 hK3 =>?_
  refine goCh U (.loadBR m6 (i := 20) rfl rfl U51 rfl fct13 (by simp) (by dsimp only [List.drop,List.take] <;> rfl) .nil) fun Y U =>?_
  refine plz (stw U m6 22 fct13 fun w25 m25 _ =>?_)
  refine gz hK3 U (.assign rfl .nil) fun Y U =>?_
  refine rtd (retCT (fn := Tryz.f89) U m25 (i := 22) rfl rfl rfl rfl U51 rfl fct13 ?_)
  have m27 := m25.dat 23 rfl (m25.rd (i := 2) rfl)
  exact ⟨pins,28,_,_,rfl,by rw [pinR,show reachR hi fl at0 ws.length = 28 from by rw [reachR,if_pos (by assumption)]]; rfl,m27.ren [(1,1),(2,2),(3,3),(6,23)] (by decide)⟩
 intro hb22 U; try simp only [QQ,Qax] at hb22
 refine wcf U ?_
 refine zss (hK1 _ _ ?_)
 refine wsk fun K4 hK4 =>?_
 refine regS U (.fa 0 rfl U38<|.lb m6 21 U3 rfl rfl rfl .nil) fun Y U =>?_
 refine wp_block ?_
 refine regS U (.eql rfl rfl<|.assign rfl .nil) fun Y U =>?_
 refine bc U 21 ?_ ?_
 · intro hb _; exact absurd hb (by simp)
 clear U; intro _ U
 refine wcf U ?_
 refine regS U (.eql rfl rfl<|.assign rfl .nil) fun Y U =>?_
 refine bc U 36 ?_ ?_
 · intro hb _; exact absurd hb (by simp)
 clear U; intro _ U
 refine wcf U ?_
 replace U := U.oz [2,3,4,5,16,19]
 refine regS U (.eql rfl rfl<|.assign rfl .nil) fun Y U =>?_
 refine bc U 53 ?_ ?_
 rotate_left
 · intro hb _; exact absurd hb (by simp)
 clear U; intro _ U
 refine wct U ?_
 refine wsk fun K5 hK5 =>?_
 refine regS U (.fa 7 rfl U38<|.lb m6 21 U2 rfl rfl rfl<|.fa 8 rfl U51<|.lb m6 20 U2 rfl rfl rfl<|.lss rfl rfl .nil) fun Y U =>?_
 refine bc U 59 ?_ ?_
 ·
  intro hb45 U; try simp only [QQ,Qax] at hb45
  refine wct U ?_
  replace U := U.oz [2,3,4,5,16,19,59]
  refine zsr fun K6 hK6 =>?_
  refine goCh U (.loadBR m6 (i := 20) rfl rfl U51 rfl fct13 (by simp) (by dsimp only [List.drop,List.take] <;> rfl) .nil) fun Y U =>?_
  refine plz (stw U m6 22 fct13 fun w49 m49 _ =>?_)
  refine gz hK6 U (.assign rfl .nil) fun Y U =>?_
  refine rtd (retCT (fn := Tryz.f89) U m49 (i := 22) rfl rfl rfl rfl U51 rfl fct13 ?_)
  have m51 := m49.dat 23 rfl (m49.rd (i := 2) rfl)
  exact ⟨pins,30,_,_,rfl,by rw [pinR,show reachR hi fl at0 ws.length = 30 from by rw [reachR,if_neg (by simp_all),if_pos (by omega)]]; rfl,m51.ren [(1,1),(2,2),(3,3),(6,23)] (by decide)⟩
 intro hb45 U; try simp only [QQ,Qax] at hb45
 refine wcf U ?_
 refine zss (hK5 _ _ ?_)
 refine wsk fun K7 hK7 =>?_
 refine wsk fun K8 hK8 =>?_
 replace U := U.oz [2,3,4,5,16,19,59]
 have m53 := m6.oz [1,2,3,20,21,22]
 refine region_p 5 (B := [(1,_),(2,_),(3,_),(20,_),(21,_),(22,_)]) (m53.to ⟨il,il,il,il,il,il,trivial⟩) m53 (by kernel_rfl) (fun w54 hP54 m54 =>?_); clear m53
 refine goR hP54 [0,1,2] [1,2] 3 0 7 U (m54.to ⟨il,il,il,il,il,il,trivial⟩) (.fa 7 rfl U38<|.lb hh 21 U2 rfl rfl rfl<|.loadBR hh (i := 20) rfl rfl U51 rfl fct13 (by simp) (by dsimp only [List.drop,List.take] <;> rfl) .nil) fun Y U =>?_
 refine stepE_only 3 rfl (by kernel_rfl) rfl (fun K hK =>?_)
 refine e_call U Tryz.func39 rfl rfl rfl rfl (rlen_any _ _ _ _ _ _ _ _ _ _ _ _ _ _ _ _ _ _) ?_
 rintro e w58 ⟨rfl,hb58⟩
 rw [List.length_map]
 have m59 := m54.later hb58
 refine ⟨_,rfl,?_⟩; intro Y U
 refine hK _ _ (m59.to ⟨il,il,il,il,il,il,trivial⟩) ?_; clear hK K
 refine goA hP54 [4] 1 15 31 U (m59.to ⟨il,il,il,il,il,il,trivial⟩) (.gtr rfl rfl .nil) fun Y U =>?_
 refine wpAnyE_done (by kernel_rfl) ?_ _
 refine hK8 _ _ ?_
 refine bc U 65 ?_ ?_
 ·
  intro hb62 U; try simp only [QQ,Qax] at hb62
  refine wct U ?_
  refine zsr fun K9 hK9 =>?_
  refine goCh U (.loadBR m59 (i := 20) rfl rfl U51 rfl fct13 (by simp) (by dsimp only [List.drop,List.take] <;> rfl) .nil) fun Y U =>?_
  refine plz (stw U m59 22 fct13 fun w65 m65 _ =>?_)
  refine gz hK9 U (.assign rfl .nil) fun Y U =>?_
  refine rtd (retCT (fn := Tryz.f89) U m65 (i := 22) rfl rfl rfl rfl U51 rfl fct13 ?_)
  have m67 := m65.dat 23 rfl (m65.rd (i := 2) rfl)
  exact ⟨pins,31,_,_,rfl,by rw [pinR,show reachR hi fl at0 ws.length = 31 from by rw [reachR,if_neg (by simp_all),if_neg (by omega),if_pos (by omega)]]; rfl,m67.ren [(1,1),(2,2),(3,3),(6,23)] (by decide)⟩
 intro hb62 U; try simp only [QQ,Qax] at hb62
 refine wcf U ?_
 refine zss (hK7 _ _ ?_)
 refine regS U (.assign rfl .nil) fun Y U =>?_
 refine wsk fun K10 hK10 =>?_
 refine wp_block ?_
 refine wp_loop_ghost (fun g a w => ∃ (k B8 B9 B10 : Nat),k ≤ pins.length ∧ g = pins.length - k ∧ (∀ j,j < k → pins.getD j 0 ≤ at0) ∧ Has 197 [(2,.pointer (some ⟨B8,0,none⟩)),(3,.pointer (some ⟨B9,0,none⟩)),(4,.pointer (some ⟨B10,0,none⟩)),(6,.int .i64 k)] a ∧ MemOk X w0 [(1,.dat (.slice pp place.length cp) (.ns .i64 place)),(2,.dat (.slice pn pins.length cn9) (.ns .i64 pins)),(3,.dat (.slice pw (ws.map wrD).length cw) (.l 2 (ws.map wrD))),(8,.box B8 51 [.int .i64 vo,.int .i64 bl,.int .i64 sz,.int .i64 pe,.slice pp place.length cp,.int .i64 to,.int .i64 ne,.bool hi,.int .i64 fl,.slice pn pins.length cn9,.slice pw (ws.map wrD).length cw]),(9,.box B9 38 [.int .i64 4,.int .i64 v1,.int .i64 v2,.int .i64 v3,.int .i64 v4,.slice q1 n1 c1,.int .i64 v5,.int .i64 at0,.int .i64 v6,.slice q2 n2 c2]),(10,.box B10 51 [.int .i64 0,.int .i64 0,.int .i64 0,.int .i64 0,.slice none 0 0,.int .i64 0,.int .i64 0,.bool false,.int .i64 0,.slice none 0 0,.slice none 0 0])] w) (pins.length) ?_ ?_
 · exact ⟨0,_,_,_,Nat.zero_le _,rfl,(fun j hj => by omega),U.only [2,3,4,6],m59.ren [(1,1),(2,2),(3,3),(8,20),(9,21),(10,22)] (by decide)⟩
 clear U m59
 rintro g Y w69 ⟨k,B8,B9,B10,hkl,hg,hall,U,m69⟩
 refine wsk fun K11 hK11 =>?_
 refine wsk fun K12 hK12 =>?_
 by_cases hk : k < pins.length
 ·
  obtain ⟨b70,o70,hp70,m70⟩ := m69.openN (i := 2) rfl (k) hk 100 rfl
  revert U
  cases hp70
  intro U
  have m71 := m70.oz [1,2,3,8,9,10,100]
  refine region_p 15 (B := [(1,_),(2,_),(3,_),(8,_),(9,_),(10,_),(100,_)]) (m71.to ⟨il,il,il,il,il,il,il,trivial⟩) m71 (by kernel_rfl) (fun w72 hP72 m72 =>?_); clear m71
  refine goR hP72 [0,1,2,3,4,5] [2] 6 0 63 U (m72.to ⟨il,il,il,il,il,il,il,trivial⟩) (.move rfl<|.fa 9 rfl U51<|.lb hh 8 U48 rfl rfl rfl<|.len rfl U48<|.lss rfl rfl<|.move rfl .nil) fun Y U =>?_
  refine bc U 72 ?_ ?_
  rotate_left
  · intro hb _; exact absurd hb (by simp; omega)
  clear U; intro _ U
  refine goR hP72 [6,7,8,9,10,11,12,13,14] [7,10,12] 9 63 32767 U (m72.to ⟨il,il,il,il,il,il,il,trivial⟩) (.fa 9 rfl U51<|.lb hh 8 U48 rfl rfl rfl<|.move rfl<|.p (fun _ _ h_ => y_idx h_ rfl rfl U48 fct22 (k) rfl hk)<|.loadC0 hh (i := 100) rfl rfl U2 rfl<|.fa 7 rfl U38<|.lb hh 9 U2 rfl rfl rfl<|.leq rfl rfl<|.pickT rfl rfl .nil) fun Y U =>?_
  refine wpAnyE_done (by kernel_rfl) ?_ _
  refine hK12 _ _ ?_
  refine bc U 81 ?_ ?_
  ·
   intro hb89 U; try simp only [QQ,Qax] at hb89
   refine wct U ?_
   refine zss (hK11 _ _ ?_)
   refine wp_block ?_
   replace U := U.oz [2,3,4,6,72,81]
   refine wp_region_lit ?_
   refine goCh U (.move rfl<|.inc (k + 1)<|.assign rfl .nil) fun Y U =>?_
   refine wpList_nil ?_
   show ∃ n',n' < _ ∧ _
   exact ⟨pins.length - (k + 1),by omega,k + 1,_,_,_,by omega,rfl,le_snoc hall (by omega),U.only [2,3,4,6],m72.only [1,2,3,8,9,10]⟩
  intro hb89 U; try simp only [QQ,Qax] at hb89
  refine wcf U ?_
  refine wp_exit ?_
  refine hK10 _ _ ?_
  replace U := U.oz [2,3,4,6,72,81]
  have m95 := m72.oz [1,2,3,8,9,10,100]
  refine region_p 15 (B := [(1,_),(2,_),(3,_),(8,_),(9,_),(10,_),(100,_)]) (m95.to ⟨il,il,il,il,il,il,il,trivial⟩) m95 (by kernel_rfl) (fun w96 hP96 m96 =>?_); clear m95
  refine goR hP96 [0,1,2] [1] 3 0 7 U (m96.to ⟨il,il,il,il,il,il,il,trivial⟩) (.fa 9 rfl U51<|.lb hh 8 U48 rfl rfl rfl<|.move rfl .nil) fun Y U =>?_
  have hcap100 := (m96.rd (i := 2) rfl).ns_out.cap
  have m100 := m96.takeN (i := 2) rfl (k) hkl 101 rfl
  refine goR hP96 [3,5,6,9,10,11] [6,10] 6 7 3695 U (m100.to ⟨il,il,il,il,il,il,il,trivial⟩) (.p (fun _ _ h_ => y_sliceHn h_ (k) rfl rfl U48 fct22 rfl (Nat.le_trans hkl hcap100.1))<|.fa 7 rfl U38<|.lb hh 9 U2 rfl rfl rfl<|.fa 9 rfl U51<|.lb hh 8 U48 rfl rfl rfl<|.move rfl .nil) fun Y U =>?_
  have m107 := m100.dropN (i := 2) rfl (k) hkl 102 rfl
  refine goA hP96 [12] 1 3695 7791 U (m107.to ⟨il,il,il,il,il,il,il,trivial⟩) (.p (fun _ _ h_ => y_sliceLn h_ (k) rfl rfl U48 fct22 rfl hkl) .nil) fun Y U =>?_
  refine dtw 4 7 ?_ ?_
  ·
   refine e_app0N U m107 103 rfl rfl (m107.nums (i := 101) rfl) U48 fct1 (by decide) (by simp; omega) rfl fun p109 c109 Y w110 U m110 =>?_
   refine ⟨fun _ => (m110.to ⟨il,il,il,il,il,il,il,trivial⟩),?_⟩
   refine so 7 ?_
   refine e_litN U m110 104 (k := .i64) rfl rfl U48 fct1 rfl rfl rfl rfl fun g111 Y w112 U m112 =>?_
   refine ⟨m112.to ⟨il,il,il,il,il,il,il,trivial⟩,?_⟩
   refine so 8 ?_
   refine e_appN U m112 103 rfl rfl rfl (m112.numsO (i := 104) rfl) U48 fct1 (by decide) (by simp; omega) rfl fun p113 c113 Y w114 U m114 =>?_
   refine ⟨m114.to ⟨il,il,il,il,il,il,il,trivial⟩,?_⟩
   refine so 13 ?_
   refine e_appN U m114 103 rfl rfl rfl (m114.nums (i := 102) rfl) U48 fct1 (by decide) (by simp; omega) rfl fun p115 c115 Y w116 U m116 =>?_
   refine ⟨m116.to ⟨il,il,il,il,il,il,il,trivial⟩,?_⟩
   refine goA hP96 [14] 1 16383 32767 U (m116.to ⟨il,il,il,il,il,il,il,trivial⟩) (.fa 9 rfl U51 .nil) fun Y U =>?_
   refine se 15 ?_
   refine st1 U m116 8 fct11 fun w118 m118 _ =>?_
   refine wpAnyE_done (by kernel_rfl) ?_ _
   refine hK4 _ _ ?_
   replace U := U.oz [2,3,4,6,72,81]
   refine zsr fun K13 hK13 =>?_
   refine goCh U (.loadBR m118 (i := 8) rfl rfl U51 rfl fct13 (by simp) (by dsimp only [List.drop,List.take] <;> rfl) .nil) fun Y U =>?_
   refine plz (stw U m118 10 fct13 fun w122 m122 _ =>?_)
   refine gz hK13 U (.assign rfl .nil) fun Y U =>?_
   refine rtd (retCT (fn := Tryz.f89) U m122 (i := 10) rfl rfl rfl rfl U51 rfl fct13 ?_)
   have m124 := m122.freezeN 103 rfl
   have hS := pin_sorted (k := k) hsp hall (by omega) (by omega)
   rw [hS] at m124 ⊢
   exact ⟨sortP (pins ++ [at0]),0,_,_,rfl,by rw [pinR,show reachR hi fl at0 ws.length = 0 from by rw [reachR,if_neg (by simp_all),if_neg (by omega),if_neg (by omega)]]; rfl,m124.ren [(1,1),(2,2),(3,3),(6,103)] (by decide)⟩
  refine e_litN U m107 103 (k := .i64) rfl rfl U48 fct1 rfl rfl rfl rfl fun g125 Y w126 U m126 =>?_
  refine ⟨fun _ => (m126.to ⟨il,il,il,il,il,il,il,trivial⟩),?_⟩
  refine so 4 ?_
  refine e_app0N U m126 104 rfl rfl (m126.nums (i := 101) rfl) U48 fct1 (by decide) (by simp; omega) rfl fun p127 c127 Y w128 U m128 =>?_
  refine ⟨m128.to ⟨il,il,il,il,il,il,il,trivial⟩,?_⟩
  refine so 8 ?_
  refine e_appN U m128 104 rfl rfl rfl (m128.numsO (i := 103) rfl) U48 fct1 (by decide) (by simp; omega) rfl fun p129 c129 Y w130 U m130 =>?_
  refine ⟨m130.to ⟨il,il,il,il,il,il,il,trivial⟩,?_⟩
  refine so 13 ?_
  refine e_appN U m130 104 rfl rfl rfl (m130.nums (i := 102) rfl) U48 fct1 (by decide) (by simp; omega) rfl fun p131 c131 Y w132 U m132 =>?_
  refine ⟨m132.to ⟨il,il,il,il,il,il,il,trivial⟩,?_⟩
  refine goA hP96 [14] 1 16383 32767 U (m132.to ⟨il,il,il,il,il,il,il,trivial⟩) (.fa 9 rfl U51 .nil) fun Y U =>?_
  refine se 15 ?_
  refine st1 U m132 8 fct11 fun w134 m134 _ =>?_
  refine wpAnyE_done (by kernel_rfl) ?_ _
  refine hK4 _ _ ?_
  replace U := U.oz [2,3,4,6,72,81]
  refine zsr fun K14 hK14 =>?_
  refine goCh U (.loadBR m134 (i := 8) rfl rfl U51 rfl fct13 (by simp) (by dsimp only [List.drop,List.take] <;> rfl) .nil) fun Y U =>?_
  refine plz (stw U m134 10 fct13 fun w138 m138 _ =>?_)
  refine gz hK14 U (.assign rfl .nil) fun Y U =>?_
  refine rtd (retCT (fn := Tryz.f89) U m138 (i := 10) rfl rfl rfl rfl U51 rfl fct13 ?_)
  have m140 := m138.freezeN 104 rfl
  have hS := pin_sorted (k := k) hsp hall (by omega) (by omega)
  rw [hS] at m140 ⊢
  exact ⟨sortP (pins ++ [at0]),0,_,_,rfl,by rw [pinR,show reachR hi fl at0 ws.length = 0 from by rw [reachR,if_neg (by simp_all),if_neg (by omega),if_neg (by omega)]]; rfl,m140.ren [(1,1),(2,2),(3,3),(6,104)] (by decide)⟩
 have hk9 : k = pins.length := by omega
 have m141 := m69.oz [1,2,3,8,9,10]
 refine region_p 15 (B := [(1,_),(2,_),(3,_),(8,_),(9,_),(10,_)]) (m141.to ⟨il,il,il,il,il,il,trivial⟩) m141 (by kernel_rfl) (fun w142 hP142 m142 =>?_); clear m141
 refine goR hP142 [0,1,2,3,4,5] [2] 6 0 63 U (m142.to ⟨il,il,il,il,il,il,trivial⟩) (.move rfl<|.fa 9 rfl U51<|.lb hh 8 U48 rfl rfl rfl<|.len rfl U48<|.lss rfl rfl<|.move rfl .nil) fun Y U =>?_
 refine bc U 72 ?_ ?_
 · intro hb _; exact absurd hb (by simp; omega)
 clear U; intro _ U
 refine goA hP142 [6,7,8,9,10,11,12,13,14] 9 63 32767 U (m142.to ⟨il,il,il,il,il,il,trivial⟩) (.s<|.s<|.s<|.s<|.s<|.s<|.s<|.s<|.pickF rfl rfl .nil) fun Y U =>?_
 refine wpAnyE_done (by kernel_rfl) ?_ _
 refine hK12 _ _ ?_
 refine wcf U ?_
 refine wp_exit ?_
 refine hK10 _ _ ?_
 replace U := U.oz [2,3,4,6,72,81]
 have m160 := m142.oz [1,2,3,8,9,10]
 refine region_p 15 (B := [(1,_),(2,_),(3,_),(8,_),(9,_),(10,_)]) (m160.to ⟨il,il,il,il,il,il,trivial⟩) m160 (by kernel_rfl) (fun w161 hP161 m161 =>?_); clear m160
 refine goR hP161 [0,1,2] [1] 3 0 7 U (m161.to ⟨il,il,il,il,il,il,trivial⟩) (.fa 9 rfl U51<|.lb hh 8 U48 rfl rfl rfl<|.move rfl .nil) fun Y U =>?_
 have hcap165 := (m161.rd (i := 2) rfl).ns_out.cap
 have m165 := m161.takeN (i := 2) rfl (k) hkl 100 rfl
 refine goR hP161 [3,5,6,9,10,11] [6,10] 6 7 3695 U (m165.to ⟨il,il,il,il,il,il,trivial⟩) (.p (fun _ _ h_ => y_sliceHn h_ (k) rfl rfl U48 fct22 rfl (Nat.le_trans hkl hcap165.1))<|.fa 7 rfl U38<|.lb hh 9 U2 rfl rfl rfl<|.fa 9 rfl U51<|.lb hh 8 U48 rfl rfl rfl<|.move rfl .nil) fun Y U =>?_
 have m172 := m165.dropN (i := 2) rfl (k) hkl 101 rfl
 refine goA hP161 [12] 1 3695 7791 U (m172.to ⟨il,il,il,il,il,il,trivial⟩) (.p (fun _ _ h_ => y_sliceLn h_ (k) rfl rfl U48 fct22 rfl hkl) .nil) fun Y U =>?_
 refine dtw 4 7 ?_ ?_
 ·
  refine e_app0N U m172 102 rfl rfl (m172.nums (i := 100) rfl) U48 fct1 (by decide) (by simp; omega) rfl fun p174 c174 Y w175 U m175 =>?_
  refine ⟨fun _ => (m175.to ⟨il,il,il,il,il,il,trivial⟩),?_⟩
  refine so 7 ?_
  refine e_litN U m175 103 (k := .i64) rfl rfl U48 fct1 rfl rfl rfl rfl fun g176 Y w177 U m177 =>?_
  refine ⟨m177.to ⟨il,il,il,il,il,il,trivial⟩,?_⟩
  refine so 8 ?_
  refine e_appN U m177 102 rfl rfl rfl (m177.numsO (i := 103) rfl) U48 fct1 (by decide) (by simp; omega) rfl fun p178 c178 Y w179 U m179 =>?_
  refine ⟨m179.to ⟨il,il,il,il,il,il,trivial⟩,?_⟩
  refine so 13 ?_
  refine e_appN U m179 102 rfl rfl rfl (m179.nums (i := 101) rfl) U48 fct1 (by decide) (by simp; omega) rfl fun p180 c180 Y w181 U m181 =>?_
  refine ⟨m181.to ⟨il,il,il,il,il,il,trivial⟩,?_⟩
  refine goA hP161 [14] 1 16383 32767 U (m181.to ⟨il,il,il,il,il,il,trivial⟩) (.fa 9 rfl U51 .nil) fun Y U =>?_
  refine se 15 ?_
  refine st1 U m181 8 fct11 fun w183 m183 _ =>?_
  refine wpAnyE_done (by kernel_rfl) ?_ _
  refine hK4 _ _ ?_
  replace U := U.oz [2,3,4,6,72,81]
  refine zsr fun K15 hK15 =>?_
  refine goCh U (.loadBR m183 (i := 8) rfl rfl U51 rfl fct13 (by simp) (by dsimp only [List.drop,List.take] <;> rfl) .nil) fun Y U =>?_
  refine plz (stw U m183 10 fct13 fun w187 m187 _ =>?_)
  refine gz hK15 U (.assign rfl .nil) fun Y U =>?_
  refine rtd (retCT (fn := Tryz.f89) U m187 (i := 10) rfl rfl rfl rfl U51 rfl fct13 ?_)
  have m189 := m187.freezeN 102 rfl
  have hS := pin_sorted (k := k) hsp hall (by omega) (by omega)
  rw [hS] at m189 ⊢
  exact ⟨sortP (pins ++ [at0]),0,_,_,rfl,by rw [pinR,show reachR hi fl at0 ws.length = 0 from by rw [reachR,if_neg (by simp_all),if_neg (by omega),if_neg (by omega)]]; rfl,m189.ren [(1,1),(2,2),(3,3),(6,102)] (by decide)⟩
 refine e_litN U m172 102 (k := .i64) rfl rfl U48 fct1 rfl rfl rfl rfl fun g190 Y w191 U m191 =>?_
 refine ⟨fun _ => (m191.to ⟨il,il,il,il,il,il,trivial⟩),?_⟩
 refine so 4 ?_
 refine e_app0N U m191 103 rfl rfl (m191.nums (i := 100) rfl) U48 fct1 (by decide) (by simp; omega) rfl fun p192 c192 Y w193 U m193 =>?_
 refine ⟨m193.to ⟨il,il,il,il,il,il,trivial⟩,?_⟩
 refine so 8 ?_
 refine e_appN U m193 103 rfl rfl rfl (m193.numsO (i := 102) rfl) U48 fct1 (by decide) (by simp; omega) rfl fun p194 c194 Y w195 U m195 =>?_
 refine ⟨m195.to ⟨il,il,il,il,il,il,trivial⟩,?_⟩
 refine so 13 ?_
 refine e_appN U m195 103 rfl rfl rfl (m195.nums (i := 101) rfl) U48 fct1 (by decide) (by simp; omega) rfl fun p196 c196 Y w197 U m197 =>?_
 refine ⟨m197.to ⟨il,il,il,il,il,il,trivial⟩,?_⟩
 refine goA hP161 [14] 1 16383 32767 U (m197.to ⟨il,il,il,il,il,il,trivial⟩) (.fa 9 rfl U51 .nil) fun Y U =>?_
 refine se 15 ?_
 refine st1 U m197 8 fct11 fun w199 m199 _ =>?_
 refine wpAnyE_done (by kernel_rfl) ?_ _
 refine hK4 _ _ ?_
 replace U := U.oz [2,3,4,6,72,81]
 refine zsr fun K16 hK16 =>?_
 refine goCh U (.loadBR m199 (i := 8) rfl rfl U51 rfl fct13 (by simp) (by dsimp only [List.drop,List.take] <;> rfl) .nil) fun Y U =>?_
 refine plz (stw U m199 10 fct13 fun w203 m203 _ =>?_)
 refine gz hK16 U (.assign rfl .nil) fun Y U =>?_
 refine rtd (retCT (fn := Tryz.f89) U m203 (i := 10) rfl rfl rfl rfl U51 rfl fct13 ?_)
 have m205 := m203.freezeN 103 rfl
 have hS := pin_sorted (k := k) hsp hall (by omega) (by omega)
 rw [hS] at m205 ⊢
 exact ⟨sortP (pins ++ [at0]),0,_,_,rfl,by rw [pinR,show reachR hi fl at0 ws.length = 0 from by rw [reachR,if_neg (by simp_all),if_neg (by omega),if_neg (by omega)]]; rfl,m205.ren [(1,1),(2,2),(3,3),(6,103)] (by decide)⟩
theorem rdone5 (X : Cx) (vo bl sz pe to ne fl : Int) (hi : Bool) (place pins : List Int) (ws : List (Int × List (Int × List Int))) (pp pn pw : Option Addr) (cp cn9 cw : Nat) (v1 v2 v3 v4 v5 at0 v6 : Int) (q1 : Option Addr) (n1 c1 : Nat) (q2 : Option Addr) (n2 c2 : Nat) (w0 : World) (hp : pins.length ≤ 900000) (m0 : MemOk X w0 [(1,.dat (.slice pp place.length cp) (.ns .i64 place)),(2,.dat (.slice pn pins.length cn9) (.ns .i64 pins)),(3,.dat (.slice pw (ws.map wrD).length cw) (.l 2 (ws.map wrD)))] w0) :
   Calls Tryz.prog 89 #[.agg #[.int .i64 vo,.int .i64 bl,.int .i64 sz,.int .i64 pe,.slice pp place.length cp,.int .i64 to,.int .i64 ne,.bool hi,.int .i64 fl,.slice pn pins.length cn9,.slice pw (ws.map wrD).length cw],.agg #[.int .i64 5,.int .i64 v1,.int .i64 v2,.int .i64 v3,.int .i64 v4,.slice q1 n1 c1,.int .i64 v5,.int .i64 at0,.int .i64 v6,.slice q2 n2 c2]] w0 fun e w' => ∃ (pins' : List Int) (e9 : Int) (p2' : Option Addr) (d2' : Nat),e = .returned (.tuple #[.agg #[.int .i64 vo,.int .i64 bl,.int .i64 sz,.int .i64 pe,.slice pp place.length cp,.int .i64 to,.int .i64 ne,.bool hi,.int .i64 fl,.slice p2' pins'.length d2',.slice pw (ws.map wrD).length cw],.int .i64 e9]) ∧ unpinR hi at0 pins = (pins',e9) ∧ MemOk X w0 [(1,.dat (.slice pp place.length cp) (.ns .i64 place)),(2,.dat (.slice pn pins.length cn9) (.ns .i64 pins)),(3,.dat (.slice pw (ws.map wrD).length cw) (.l 2 (ws.map wrD))),(6,.dat (.slice p2' pins'.length d2') (.ns .i64 pins'))] w' := by
 refine ent2 Tryz.func89 rfl Tryz.ntmps89 fun Y U =>?_
 refine zsr fun K0 hK0 =>?_
 refine plz (e_box U m0 20 (cs := [_,_,_,_,_,_,_,_,_,_,_]) rfl rfl rfl fun g1 Y w2 U m2 _ _ =>?_)
 refine plz (e_box U m2 21 (cs := [_,_,_,_,_,_,_,_,_,_]) rfl rfl rfl fun g3 Y w4 U m4 _ _ =>?_)
 refine plz (e_alloc U m4 22 fct14 rfl fun g5 Y w6 U m6 _ _ =>?_)
 refine gz hK0 U (.assign rfl .nil) fun Y U =>?_
 refine wsk fun K1 hK1 =>?_
 refine regS U (.fa 0 rfl U38<|.lb m6 21 U3 rfl rfl rfl .nil) fun Y U =>?_
 refine wp_block ?_
 refine wsk fun K2 hK2 =>?_
 refine regS U (.eql rfl rfl<|.assign rfl .nil) fun Y U =>?_
 refine bc U 10 ?_ ?_
 · intro hb _; exact absurd hb (by simp)
 clear U; intro _ U
 refine wcf U ?_
 refine regS U (.eql rfl rfl<|.assign rfl .nil) fun Y U =>?_
 refine bc U 10 ?_ ?_
 · intro hb _; exact absurd hb (by simp)
 clear U; intro _ U
 refine wcf U ?_
 refine regS U (.eql rfl rfl<|.assign rfl .nil) fun Y U =>?_
 refine bc U 10 ?_ ?_
 · intro hb _; exact absurd hb (by simp)
 clear U; intro _ U
 refine wcf U ?_
 replace U := U.oz [2,3,4,5,9,10]
 refine wp_region_lit ?_
 refine gz hK2 U (.eql rfl rfl<|.assign rfl<|.nil) fun Y U =>?_
 refine bc U 10 ?_ ?_
 rotate_left
 · intro hb _; exact absurd hb (by simp)
 clear U; intro _ U
 refine wct U ?_
 refine regS U (.fa 7 rfl U51<|.lb m6 20 U4 rfl rfl rfl .nil) fun Y U =>?_
 refine bc U 16 ?_ ?_
 ·
  intro hb25 U; try simp only [QQ,Qax] at hb25
  refine wct U ?_
  refine zsr fun K3 hK3 =>?_
  refine goCh U (.loadBR m6 (i := 20) rfl rfl U51 rfl fct13 (by simp) (by dsimp only [List.drop,List.take] <;> rfl) .nil) fun Y U =>?_
  refine plz (stw U m6 22 fct13 fun w28 m28 _ =>?_)
  refine gz hK3 U (.assign rfl .nil) fun Y U =>?_
  refine rtd (retCT (fn := Tryz.f89) U m28 (i := 22) rfl rfl rfl rfl U51 rfl fct13 ?_)
  have m30 := m28.dat 23 rfl (m28.rd (i := 2) rfl)
  exact ⟨pins,28,_,_,rfl,by rw [unpinR,if_pos (by left; assumption)],m30.ren [(1,1),(2,2),(3,3),(6,23)] (by decide)⟩
 intro hb25 U; try simp only [QQ,Qax] at hb25
 refine wcf U ?_
 refine zss (hK1 _ _ ?_)
 refine wsk fun K4 hK4 =>?_
 refine regS U (.fa 0 rfl U38<|.lb m6 21 U3 rfl rfl rfl .nil) fun Y U =>?_
 refine wp_block ?_
 refine regS U (.eql rfl rfl<|.assign rfl .nil) fun Y U =>?_
 refine bc U 21 ?_ ?_
 · intro hb _; exact absurd hb (by simp)
 clear U; intro _ U
 refine wcf U ?_
 replace U := U.oz [2,3,4,5,16,19]
 refine regS U (.eql rfl rfl<|.assign rfl .nil) fun Y U =>?_
 refine bc U 36 ?_ ?_
 · intro hb _; exact absurd hb (by simp)
 clear U; intro _ U
 refine wcf U ?_
 refine regS U (.eql rfl rfl<|.assign rfl .nil) fun Y U =>?_
 refine bc U 53 ?_ ?_
 · intro hb _; exact absurd hb (by simp)
 clear U; intro _ U
 refine wcf U ?_
 refine regS U (.eql rfl rfl<|.assign rfl .nil) fun Y U =>?_
 refine bc U 99 ?_ ?_
 rotate_left
 · intro hb _; exact absurd hb (by simp)
 clear U; intro _ U
 refine wct U ?_
 refine wsk fun K5 hK5 =>?_
 replace U := U.oz [2,3,4,5,16,19]
 refine regS U (.assign rfl .nil) fun Y U =>?_
 refine wp_block ?_
 refine wp_loop_ghost (fun g a w => ∃ (k B8 B9 B10 : Nat),k ≤ pins.length ∧ g = pins.length - k ∧ (∀ j,j < k → pins.getD j 0 ≠ at0) ∧ Has 197 [(2,.pointer (some ⟨B8,0,none⟩)),(3,.pointer (some ⟨B9,0,none⟩)),(4,.pointer (some ⟨B10,0,none⟩)),(7,.int .i64 k)] a ∧ MemOk X w0 [(1,.dat (.slice pp place.length cp) (.ns .i64 place)),(2,.dat (.slice pn pins.length cn9) (.ns .i64 pins)),(3,.dat (.slice pw (ws.map wrD).length cw) (.l 2 (ws.map wrD))),(8,.box B8 51 [.int .i64 vo,.int .i64 bl,.int .i64 sz,.int .i64 pe,.slice pp place.length cp,.int .i64 to,.int .i64 ne,.bool hi,.int .i64 fl,.slice pn pins.length cn9,.slice pw (ws.map wrD).length cw]),(9,.box B9 38 [.int .i64 5,.int .i64 v1,.int .i64 v2,.int .i64 v3,.int .i64 v4,.slice q1 n1 c1,.int .i64 v5,.int .i64 at0,.int .i64 v6,.slice q2 n2 c2]),(10,.box B10 51 [.int .i64 0,.int .i64 0,.int .i64 0,.int .i64 0,.slice none 0 0,.int .i64 0,.int .i64 0,.bool false,.int .i64 0,.slice none 0 0,.slice none 0 0])] w) (pins.length) ?_ ?_
 · exact ⟨0,_,_,_,Nat.zero_le _,rfl,(fun j hj => by omega),U.only [2,3,4,7],m6.ren [(1,1),(2,2),(3,3),(8,20),(9,21),(10,22)] (by decide)⟩
 clear U m6
 rintro g Y w48 ⟨k,B8,B9,B10,hkl,hg,hall,U,m48⟩
 refine wsk fun K6 hK6 =>?_
 refine regS U (.move rfl<|.fa 9 rfl U51<|.lb m48 8 U48 rfl rfl rfl<|.len rfl U48<|.lss rfl rfl .nil) fun Y U =>?_
 refine bc U 105 ?_ ?_
 ·
  intro hb54 U; try simp only [QQ,Qax] at hb54
  obtain ⟨hk,hkk⟩ : k < pins.length ∧ True := ⟨by omega,trivial⟩
  refine wct U ?_
  refine zss (hK6 _ _ ?_)
  refine wsk fun K7 hK7 =>?_
  refine wp_block ?_
  refine wsk fun K8 hK8 =>?_
  obtain ⟨b55,o55,hp55,m55⟩ := m48.openN (i := 2) rfl (k) (by omega) 100 rfl
  revert U
  cases hp55
  intro U
  have m56 := m55.oz [1,2,3,8,9,10,100]
  refine region_p 8 (B := [(1,_),(2,_),(3,_),(8,_),(9,_),(10,_),(100,_)]) (m56.to ⟨il,il,il,il,il,il,il,trivial⟩) m56 (by kernel_rfl) (fun w57 hP57 m57 =>?_); clear m56
  refine goR hP57 [0,1,2,3,4,5,6,7] [1,4,6] 8 0 255 U (m57.to ⟨il,il,il,il,il,il,il,trivial⟩) (.fa 9 rfl U51<|.lb hh 8 U48 rfl rfl rfl<|.move rfl<|.p (fun _ _ h_ => y_idx h_ rfl rfl U48 fct22 (k) rfl (by omega))<|.loadC0 hh (i := 100) rfl rfl U2 rfl<|.fa 7 rfl U38<|.lb hh 9 U2 rfl rfl rfl<|.eql rfl rfl .nil) fun Y U =>?_
  refine wpAnyE_done (by kernel_rfl) ?_ _
  refine hK8 _ _ ?_
  refine bc U 115 ?_ ?_
  ·
   intro hb66 U; try simp only [QQ,Qax] at hb66
   refine wct U ?_
   refine wsk fun K9 hK9 =>?_
   replace U := U.oz [2,3,4,7,105,115]
   have m68 := m57.oz [1,2,3,8,9,10,100]
   refine region_p 12 (B := [(1,_),(2,_),(3,_),(8,_),(9,_),(10,_),(100,_)]) (m68.to ⟨il,il,il,il,il,il,il,trivial⟩) m68 (by kernel_rfl) (fun w69 hP69 m69 =>?_); clear m68
   refine goR hP69 [0,1,2] [1] 3 0 7 U (m69.to ⟨il,il,il,il,il,il,il,trivial⟩) (.fa 9 rfl U51<|.lb hh 8 U48 rfl rfl rfl<|.move rfl .nil) fun Y U =>?_
   have hcap73 := (m69.rd (i := 2) rfl).ns_out.cap
   have m73 := m69.takeN (i := 2) rfl (k) hkl 101 rfl
   refine goR hP69 [3,5,6,7,8] [6] 5 7 495 U (m73.to ⟨il,il,il,il,il,il,il,trivial⟩) (.p (fun _ _ h_ => y_sliceHn h_ (k) rfl rfl U48 fct22 rfl (Nat.le_trans hkl hcap73.1))<|.fa 9 rfl U51<|.lb hh 8 U48 rfl rfl rfl<|.move rfl<|.add rfl rfl (r := ((k + 1 : Nat) : Int)) (by rw [IntWalk.i64_in _ (by omega)]; omega) .nil) fun Y U =>?_
   have m79 := m73.dropN (i := 2) rfl (k + 1) (show k + 1 ≤ pins.length by omega) 102 rfl
   refine goA hP69 [9] 1 495 1007 U (m79.to ⟨il,il,il,il,il,il,il,trivial⟩) (.p (fun _ _ h_ => y_sliceLn h_ (k + 1) rfl rfl U48 fct22 rfl (show k + 1 ≤ pins.length by omega)) .nil) fun Y U =>?_
   refine so 4 ?_
   refine e_app0N U m79 103 rfl rfl (m79.nums (i := 101) rfl) U48 fct1 (by decide) (by simp; omega) rfl fun p81 c81 Y w82 U m82 =>?_
   refine ⟨m82.to ⟨il,il,il,il,il,il,il,trivial⟩,?_⟩
   refine so 10 ?_
   refine e_appN U m82 103 rfl rfl rfl (m82.nums (i := 102) rfl) U48 fct1 (by decide) (by simp; omega) rfl fun p83 c83 Y w84 U m84 =>?_
   refine ⟨m84.to ⟨il,il,il,il,il,il,il,trivial⟩,?_⟩
   refine goA hP69 [11] 1 2047 4095 U (m84.to ⟨il,il,il,il,il,il,il,trivial⟩) (.fa 9 rfl U51 .nil) fun Y U =>?_
   refine se 12 ?_
   refine st1 U m84 8 fct11 fun w86 m86 _ =>?_
   refine wpAnyE_done (by kernel_rfl) ?_ _
   refine hK9 _ _ ?_
   replace U := U.oz [2,3,4,7,105,115]
   refine zsr fun K10 hK10 =>?_
   refine goCh U (.loadBR m86 (i := 8) rfl rfl U51 rfl fct13 (by simp) (by dsimp only [List.drop,List.take] <;> rfl) .nil) fun Y U =>?_
   refine plz (stw U m86 10 fct13 fun w90 m90 _ =>?_)
   refine gz hK10 U (.assign rfl .nil) fun Y U =>?_
   refine rtd (retCT (fn := Tryz.f89) U m90 (i := 10) rfl rfl rfl rfl U51 rfl fct13 ?_)
   have m92 := m90.freezeN 103 rfl
   have hI := Lib.idxOf_hit pins pins.length k at0 hk (Nat.le_refl _) (by omega) hall
   rw [List.take_length] at hI
   exact ⟨pins.take k ++ pins.drop (k + 1),0,_,_,rfl,by rw [unpinR,if_neg (by rintro (h | h) <;> first | omega | simp_all),hI]; simp,m92.ren [(1,1),(2,2),(3,3),(6,103)] (by decide)⟩
  intro hb66 U; try simp only [QQ,Qax] at hb66
  refine wcf U ?_
  refine zss (hK7 _ _ ?_)
  replace U := U.oz [2,3,4,7,105,115]
  refine wp_region_lit ?_
  refine goCh U (.move rfl<|.inc (k + 1)<|.assign rfl .nil) fun Y U =>?_
  refine wpList_nil ?_
  show ∃ n',n' < _ ∧ _
  exact ⟨pins.length - (k + 1),by omega,k + 1,_,_,_,by omega,rfl,nn_snoc hall (by omega),U.only [2,3,4,7],m57.only [1,2,3,8,9,10]⟩
 intro hb54 U; try simp only [QQ,Qax] at hb54
 revert U
 obtain rfl : k = pins.length := by omega
 intro U
 refine wcf U ?_
 refine wp_exit ?_
 refine hK5 _ _ ?_
 refine zsr fun K11 hK11 =>?_
 refine goCh U (.loadBR m48 (i := 8) rfl rfl U51 rfl fct13 (by simp) (by dsimp only [List.drop,List.take] <;> rfl) .nil) fun Y U =>?_
 refine plz (stw U m48 10 fct13 fun w99 m99 _ =>?_)
 refine gz hK11 U (.assign rfl .nil) fun Y U =>?_
 refine rtd (retCT (fn := Tryz.f89) U m99 (i := 10) rfl rfl rfl rfl U51 rfl fct13 ?_)
 have m101 := m99.dat 100 rfl (m99.rd (i := 2) rfl)
 have hI := Lib.idxOf_miss pins pins.length at0 hall
 rw [List.take_length] at hI
 exact ⟨pins,28,_,_,rfl,by rw [unpinR,if_pos (by right; omega)],m101.ren [(1,1),(2,2),(3,3),(6,100)] (by decide)⟩
end
end Go.Proofs.YtkehgingagggaaaGreat.K
