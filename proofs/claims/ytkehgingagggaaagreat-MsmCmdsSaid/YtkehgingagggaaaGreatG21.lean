/- General laws of walks. -/
import Derived.Test.YtkehgingagggaaaGreatG20
namespace Go.Proofs.YtkehgingagggaaaGreat.K
open Go.ChangeShapes Go.WideShapes Go.ChangeAt Go.RowKit
set_option linter.unusedVariables false
set_option linter.unusedSimpArgs false
section
theorem fl44ymA : flatS Tryz.prog 44 [.int .i64 0,.int .i64 0,.int .i64 0,.int .i64 0,.slice none 0 0] = true := by kernel_rfl
theorem fnd_ex {L : List VolV} {vo j : Int} (h : (j = -1 ∧ ∀ (k : Nat) (e : VolV),L[k]? = some e → e.vo ≠ vo) ∨ ∃ (k : Nat) (e : VolV),j = (k : Int) ∧ L[k]? = some e ∧ e.vo = vo) (hj : 0 ≤ j) : ∃ y ∈ L,y.vo = vo := by
 rcases h with ⟨h,_⟩ | ⟨k,e,_,h1,h2⟩
 · omega
 exact ⟨e,List.mem_of_getElem? h1,h2⟩
theorem fnd_nx {L : List VolV} {vo j : Int} (h : (j = -1 ∧ ∀ (k : Nat) (e : VolV),L[k]? = some e → e.vo ≠ vo) ∨ ∃ (k : Nat) (e : VolV),j = (k : Int) ∧ L[k]? = some e ∧ e.vo = vo) (hj : j < 0) : ¬ ∃ y ∈ L,y.vo = vo := by
 rcases h with ⟨_,h⟩ | ⟨k,e,h0,_,_⟩
 · rintro ⟨y,hy,hv⟩
   obtain ⟨k,hk⟩ := List.getElem?_of_mem hy
   exact h k y hk hv
 omega
theorem fnd_get {L : List VolV} {vo j : Int} (h : (j = -1 ∧ ∀ (k : Nat) (e : VolV),L[k]? = some e → e.vo ≠ vo) ∨ ∃ (k : Nat) (e : VolV),j = (k : Int) ∧ L[k]? = some e ∧ e.vo = vo) (hj : 0 ≤ j) : ∃ (jn : Nat) (x : VolV),j = (jn : Int) ∧ L[jn]? = some x ∧ x.vo = vo := by
 rcases h with ⟨h,_⟩ | ⟨k,e,h0,h1,h2⟩
 · omega
 exact ⟨k,e,h0,h1,h2⟩
theorem lt_snocV {L : List VolV} {vo : Int} {k : Nat} {z : VolV} (h : ∀ i,i < k → ∀ z,L[i]? = some z → z.vo < vo) (hz : L[k]? = some z) (hv : z.vo < vo) : ∀ i,i < k + 1 → ∀ z,L[i]? = some z → z.vo < vo := fun i hi y hy => by
 rcases Nat.lt_or_ge i k with h1 | h1
 · exact h i h1 y hy
 obtain rfl : i = k := by omega
 rw [hz] at hy; injection hy with hy; subst hy; exact hv
def insV (L : List VolV) (v : VolV) : List VolV := L.takeWhile (fun y => decide (y.vo < v.vo)) ++ [v] ++ L.dropWhile (fun y => decide (y.vo < v.vo))
theorem ins_at {v : VolV} : ∀ {L : List VolV} {k : Nat},k ≤ L.length → (∀ i,i < k → ∀ z,L[i]? = some z → z.vo < v.vo) → (∀ z,L[k]? = some z → ¬ z.vo < v.vo) → L.takeWhile (fun y => decide (y.vo < v.vo)) = L.take k ∧ L.dropWhile (fun y => decide (y.vo < v.vo)) = L.drop k
 | [],k,hk,_,_ => by simp
 | y :: t,0,_,_,h => by
   have := h y rfl
   simp [List.takeWhile,List.dropWhile,this]
 | y :: t,k + 1,hk,hb,h => by
   have h0 := hb 0 (by omega) y rfl
   obtain ⟨a,b⟩ := ins_at (L := t) (k := k) (by simpa using hk) (fun i hi z hz => hb (i + 1) (by omega) z (by simpa using hz)) (fun z hz => h z (by simpa using hz))
   simp [List.takeWhile,List.dropWhile,h0,a,b]
open Classical in
noncomputable def rApp (L : List VolV) (c : Cm) : List VolV × Int × Int × Int × Int :=
 if c.kd = 1 then (if (∃ y ∈ L,y.vo = c.vo) then (L,29,0,0,0) else if NewOk c.vo c.bl c.sz c.pe c.to c.pl then (insV L (newV c.vo c.bl c.sz c.pe c.to c.pl),0,0,0,0) else (L,23,0,0,0))
 else match L.findIdx? (fun y => decide (y.vo = c.vo)) with
   | none => (L,28,0,0,0)
   | some j => (L.set j (doV (L.getD j volZ) c).1,(doV (L.getD j volZ) c).2,(repV (doV (L.getD j volZ) c).1 (doV (L.getD j volZ) c).2).1,(repV (doV (L.getD j volZ) c).1 (doV (L.getD j volZ) c).2).2.1,(repV (doV (L.getD j volZ) c).1 (doV (L.getD j volZ) c).2).2.2)
theorem rApp_ex {L : List VolV} {c : Cm} (hk : c.kd = 1) (h : ∃ y ∈ L,y.vo = c.vo) : rApp L c = (L,29,0,0,0) := by rw [rApp,if_pos hk,if_pos h]
theorem rApp_bad {L : List VolV} {c : Cm} (hk : c.kd = 1) (h : ¬ ∃ y ∈ L,y.vo = c.vo) (hN : ¬ NewOk c.vo c.bl c.sz c.pe c.to c.pl) : rApp L c = (L,23,0,0,0) := by rw [rApp,if_pos hk,if_neg h,if_neg hN]
theorem rApp_no {L : List VolV} {c : Cm} (hk : ¬ c.kd = 1) (h : ¬ ∃ y ∈ L,y.vo = c.vo) : rApp L c = (L,28,0,0,0) := by
 have hf : L.findIdx? (fun y => decide (y.vo = c.vo)) = none := List.findIdx?_eq_none_iff.2 (fun y hy => by simpa using fun e => h ⟨y,hy,e⟩)
 rw [rApp,if_neg hk,hf]
theorem rApp_new {L : List VolV} {c : Cm} {k : Nat} (hk : c.kd = 1) (h : ¬ ∃ y ∈ L,y.vo = c.vo) (hN : NewOk c.vo c.bl c.sz c.pe c.to c.pl) (hkl : k ≤ L.length) (hb : ∀ i,i < k → ∀ z,L[i]? = some z → z.vo < c.vo) (hg : ∀ z,L[k]? = some z → ¬ z.vo < c.vo) : rApp L c = (L.take k ++ [newV c.vo c.bl c.sz c.pe c.to c.pl] ++ L.drop k,0,0,0,0) := by
 obtain ⟨a,b⟩ := ins_at (v := newV c.vo c.bl c.sz c.pe c.to c.pl) hkl hb hg
 rw [rApp,if_pos hk,if_neg h,if_pos hN,insV,a,b]
theorem rApp_do {L : List VolV} {c : Cm} {j : Nat} {x y : VolV} {e9 rl rf rn : Int} (hk : ¬ c.kd = 1) (hU : (L.map (·.vo)).Nodup) (hj : L[j]? = some x) (hv : x.vo = c.vo) (hd : doV x c = (y,e9)) (hr : repV y e9 = (rl,rf,rn)) : rApp L c = (L.set j y,e9,rl,rf,rn) := by
 have hf : L.findIdx? (fun y => decide (y.vo = c.vo)) = some j := by
   cases hf : L.findIdx? (fun y => decide (y.vo = c.vo)) with
   | none => exact absurd hv (by simpa using List.findIdx?_eq_none_iff.1 hf x (List.mem_of_getElem? hj))
   | some i =>
     obtain ⟨hil,hiv,_⟩ := List.findIdx?_eq_some_iff_getElem.1 hf
     have h1 : (L.map (·.vo))[i]? = some c.vo := by rw [List.getElem?_map,List.getElem?_eq_getElem hil]; exact congrArg some (by simpa using hiv)
     have h2 : (L.map (·.vo))[j]? = some c.vo := by rw [List.getElem?_map,hj]; exact congrArg some hv
     rw [nodup_at hU h1 h2]
 have hg : L.getD j volZ = x := by rw [List.getD,hj]; rfl
 rw [rApp,if_neg hk,hf]
 simp only [hg,hd,hr]
set_option maxRecDepth 100000
set_option maxHeartbeats 4000000
theorem rapply_e (X : Cx) (B n : Nat) (L : List VolV) (p : Option Addr) (c : Nat) (kd vo bl sz pe to at0 ix : Int) (place : List Int) (items : List (Int × List Int)) (pb : Option Addr) (cb : Nat) (w0 : World) (hV : ∀ y ∈ L,VolS n y) (hn : n ≤ 800000) (hl : L.length ≤ 1000000) (hU : (L.map (·.vo)).Nodup) (hc : CmdOk kd vo bl sz pe to at0 ix place items) (m0 : MemOk X w0 [(1,.box B 32 [.slice p (L.map volD).length c]),(2,.dat (.slice p (L.map volD).length c) (.l 11 (L.map volD))),(3,.dat (.slice pb (cmdE kd vo bl sz pe to at0 ix place items).length cb) (.ns .u8 (cmdE kd vo bl sz pe to at0 ix place items)))] w0) :
   Calls Tryz.prog 15 #[.pointer (some ⟨B,0,none⟩),.slice pb (cmdE kd vo bl sz pe to at0 ix place items).length cb] w0 fun e w' => ∃ (L' : List VolV) (e9 rl rf rn : Int) (p' : Option Addr) (c' : Nat),e = .returned (.agg #[.int .i64 e9,.int .i64 rl,.int .i64 rf,.int .i64 rn,.slice none 0 0]) ∧ rApp L (⟨kd,vo,bl,sz,pe,place,to,at0,ix,items⟩ : Cm) = (L',e9,rl,rf,rn) ∧ MemOk X w0 [(1,.box B 32 [.slice p' (L'.map volD).length c']),(2,.dat (.slice p' (L'.map volD).length c') (.l 11 (L'.map volD)))] w' := by
 refine ent2 Tryz.func15 rfl Tryz.ntmps15 fun Y U =>?_
 have hlm : (L.map volD).length ≤ 1000000 := by simpa using hl
 have hpl := hc.pl
 refine zsr fun K0 hK0 =>?_
 refine plz (e_alloc U m0 20 fct26 rfl fun g1 Y w2 U m2 _ _ =>?_)
 refine znl (hK0 _ _ ?_)
 refine zsr fun K1 hK1 =>?_
 refine goCh U (.move rfl .nil) fun Y U =>?_
 refine plz (ecl U Tryz.func29 rfl (rread_y _ kd vo bl sz pe to at0 ix place items _ _ _ hc (m2.into [(1,3)] (by decide) rfl)) ?_)
 rintro e w5 ⟨pp5,cp5,pi5,ci5,rfl,hm5⟩
 have mx5 := m2.back hm5 [(21,1),(22,2)] (by decide); clear hm5 m2
 have m5 := mx5.oz [21,22,1,2,20]
 refine ⟨_,rfl,?_⟩; intro Y U
 refine goCh U (.move rfl<|.extract rfl rfl<|.extract rfl rfl .nil) fun Y U =>?_
 refine plz (e_alloc U m5 23 fct23 rfl fun g10 Y w11 U m11 _ _ =>?_)
 refine plz (stw U m11 23 fct18 fun w12 m12 _ =>?_)
 refine gz hK1 U (.assign rfl .nil) fun Y U =>?_
 refine wsk fun K2 hK2 =>?_
 replace U := U.oz [0,4,5,6]
 refine regS U (.move rfl<|.neq rfl rfl .nil) fun Y U =>?_
 refine bc U 19 ?_ ?_
 · intro hb _; exact absurd hb (by simp)
 clear U; intro _ U
 refine wcf U ?_
 refine zss (hK2 _ _ ?_)
 refine zsr fun K3 hK3 =>?_
 refine goCh U (.move rfl<|.fa 1 rfl U38<|.lb m12 23 U3 rfl rfl rfl .nil) fun Y U =>?_
 refine plz (ecl U Tryz.func49 rfl (rfind_x _ _ L _ _ _ _ hl (m12.into [(1,1),(2,2)] (by decide) rfl)) ?_)
 rintro e w24 ⟨j,rfl,hj,hm24⟩
 have mx24 := m12.back hm24 [(1,1),(2,2)] (by decide); clear hm24 m12
 have m24 := mx24.oz [1,2,20,21,22,23]
 refine ⟨_,rfl,?_⟩; intro Y U
 refine gz hK3 U (.assign rfl .nil) fun Y U =>?_
 replace U := U.oz [0,4,5,7]
 refine zsr fun K4 hK4 =>?_
 refine goCh U (.move rfl<|.nilCheck rfl<|.fa 0 rfl U32<|.lb m24 1 U30 rfl rfl rfl .nil) fun Y U =>?_
 have m36 := m24.nilR 24 51 11
 refine plz (e_appR U m36 24 rfl rfl rfl (m36.rd (i := 2) rfl) U30 fct31 rfl rfl (by decide) (by simp; omega) rfl fun p37 c37 Y w38 U m38 =>?_)
 refine gz hK4 U (.assign rfl .nil) fun Y U =>?_
 refine wsk fun K5 hK5 =>?_
 refine regS U (.fa 0 rfl U38<|.lb m38 23 U3 rfl rfl rfl<|.eql rfl rfl .nil) fun Y U =>?_
 refine bc U 32 ?_ ?_
 ·
  intro hb43 U; try simp only [QQ,Qax] at hb43
  have hkd : kd = 1 := by simpa using hb43
  refine wct U ?_
  refine wsk fun K6 hK6 =>?_
  replace U := U.oz [0,4,5,7,8]
  refine zsr fun K7 hK7 =>?_
  have m46 := m38.freezeR 24 rfl
  refine gz hK7 U (.move rfl<|.geq rfl rfl<|.nil) fun Y U =>?_
  refine bc U 34 ?_ ?_
  ·
   intro hb49 U; try simp only [QQ,Qax] at hb49
   have hex : ∃ y ∈ L,y.vo = vo := fnd_ex hj (by simpa using hb49)
   refine wct U ?_
   refine zsr fun K8 hK8 =>?_
   refine goCh U (.build rfl fct26 fl44ymA rfl (by dsimp only [setL,List.set] <;> rfl) .nil) fun Y U =>?_
   refine plz (stw U m46 20 fct25 fun w52 m52 _ =>?_)
   refine znl (hK8 _ _ ?_)
   refine rtd (retC (fn := Tryz.f15) U m52 (i := 20) rfl rfl rfl U44 rfl fct25 ?_)
   first | exact ⟨L,_,_,_,_,_,_,rfl,rApp_ex (c := (⟨kd,vo,bl,sz,pe,place,to,at0,ix,items⟩ : Cm)) hkd hex,m52.only [1,2]⟩ | exact ⟨L,_,_,_,_,_,_,rfl,rApp_bad (c := (⟨kd,vo,bl,sz,pe,place,to,at0,ix,items⟩ : Cm)) hkd hnx hN,m52.only [1,2]⟩ | exact ⟨L,_,_,_,_,_,_,rfl,rApp_no (c := (⟨kd,vo,bl,sz,pe,place,to,at0,ix,items⟩ : Cm)) hkn hnx,m52.only [1,2]⟩
  intro hb49 U; try simp only [QQ,Qax] at hb49
  have hnx : ¬ ∃ y ∈ L,y.vo = vo := fnd_nx hj (by simpa using hb49)
  refine wcf U ?_
  refine zss (hK6 _ _ ?_)
  refine wsk fun K9 hK9 =>?_
  by_cases hN : NewOk vo bl sz pe to place
  ·
   refine wp_region_lit ?_
   refine goCh U (.loadBR m46 (i := 23) rfl rfl U38 rfl fct18 (by simp) (by dsimp only [List.drop,List.take] <;> rfl) .nil) fun Y U =>?_
   refine plz (ecl U Tryz.func50 rfl (rnew_yes _ vo bl sz pe to _ _ place _ _ _ _ _ _ ((m46.rd (i := 21) rfl).any) (by omega) hN) ?_)
   rintro e w54 ⟨p54,c54,rfl,hd54,hb54⟩
   have m55 := m46.callF 25 rfl hb54 hd54
   refine ⟨_,rfl,?_⟩; intro Y U
   refine goCh U (.move rfl<|.extract rfl rfl<|.extract rfl rfl .nil) fun Y U =>?_
   refine plz (e_alloc U m55 26 fct14 rfl fun g60 Y w61 U m61 _ _ =>?_)
   refine plz (stw U m61 26 fct13 fun w62 m62 _ =>?_)
   refine gz hK9 U (.assign rfl .nil) fun Y U =>?_
   refine wsk fun K10 hK10 =>?_
   replace U := U.oz [0,4,5,7,8,9,10]
   refine regS U (.move rfl<|.neq rfl rfl .nil) fun Y U =>?_
   refine bc U 42 ?_ ?_
   · intro hb _; exact absurd hb (by simp)
   clear U; intro _ U
   refine wcf U ?_
   refine zss (hK10 _ _ ?_)
   refine regS U (.assign rfl .nil) fun Y U =>?_
   refine wsk fun K11 hK11 =>?_
   refine wp_block ?_
   refine wp_loop_ghost (fun g a w => ∃ (k B4 B5 B9 c8 c9 n1 d1 n2 d2 : Nat) (p8 p9 q1 q2 : Option Addr),k ≤ (L.map volD).length ∧ (∀ i,i < k → ∀ z,L[i]? = some z → z.vo < vo) ∧ g = (L.map volD).length - k ∧ Has 97 [(0,.pointer (some ⟨B,0,none⟩)),(4,.pointer (some ⟨B4,0,none⟩)),(5,.pointer (some ⟨B5,0,none⟩)),(7,.int .i64 k),(8,.slice p8 (L.map volD).length c8),(9,.pointer (some ⟨B9,0,none⟩))] a ∧ MemOk X w0 [(1,.box B 32 [.slice p (L.map volD).length c]),(2,.dat (.slice p (L.map volD).length c) (.l 11 (L.map volD))),(4,.box B4 44 [.int .i64 0,.int .i64 0,.int .i64 0,.int .i64 0,.slice none 0 0]),(5,.box B5 38 [.int .i64 kd,.int .i64 vo,.int .i64 bl,.int .i64 sz,.int .i64 pe,.slice q1 n1 d1,.int .i64 to,.int .i64 at0,.int .i64 ix,.slice q2 n2 d2]),(9,.box B9 51 [.int .i64 vo,.int .i64 bl,.int .i64 sz,.int .i64 pe,.slice p9 place.length c9,.int .i64 to,.int .i64 0,.bool (decide (0 < to)),.int .i64 0,.slice none 0 0,.slice none 0 0]),(8,.dat (.slice p8 (L.map volD).length c8) (.l 11 (L.map volD))),(10,.dat (.slice p9 place.length c9) (.ns .i64 place))] w) ((L.map volD).length) ?_ ?_
   · exact ⟨0,_,_,_,_,_,_,_,_,_,_,_,_,_,Nat.zero_le _,(fun i hi => absurd hi (Nat.not_lt_zero i)),rfl,U.only [0,4,5,7,8,9],m62.ren [(1,1),(2,2),(4,20),(5,23),(9,26),(8,24),(10,25)] (by decide)⟩
   clear U m62
   rintro g Y w69 ⟨k,B4,B5,B9,c8,c9,n1,d1,n2,d2,p8,p9,q1,q2,hkl,hbl,hg,U,m69⟩
   refine wsk fun K12 hK12 =>?_
   refine wsk fun K13 hK13 =>?_
   by_cases hk : k < (L.map volD).length
   ·
    obtain ⟨z9,hes9⟩ : ∃ x,L[k]? = some x := ⟨_,List.getElem?_eq_getElem (by simpa using hk)⟩
    obtain ⟨b70,o70,vs70,hp70,hR70,ho70,m70⟩ := m69.openR (i := 8) rfl (k) (r := [.v (.int .i64 z9.vo),.v (.int .i64 z9.bl),.v (.int .i64 z9.sz),.v (.int .i64 z9.pe),.ns .i64 z9.place,.v (.int .i64 z9.to),.v (.int .i64 z9.ne),.v (.bool z9.hi),.v (.int .i64 z9.fl),.ns .i64 z9.pins,.l 2 (z9.ws.map wrD)]) (volD_get hes9) 100 rfl
    revert U
    cases hp70; clear m69 ho70
    rcases hR70 with _ | ⟨hd70_0,_ | ⟨hd70_1,_ | ⟨hd70_2,_ | ⟨hd70_3,_ | ⟨hd70_4,_ | ⟨hd70_5,_ | ⟨hd70_6,_ | ⟨hd70_7,_ | ⟨hd70_8,_ | ⟨hd70_9,_ | ⟨hd70_10,_ | _⟩⟩⟩⟩⟩⟩⟩⟩⟩⟩⟩
    obtain rfl := hd70_0.v_out
    clear hd70_0
    obtain rfl := hd70_1.v_out
    clear hd70_1
    obtain rfl := hd70_2.v_out
    clear hd70_2
    obtain rfl := hd70_3.v_out
    clear hd70_3
    obtain ⟨p71,c71,hv71,hc71⟩ := hd70_4.ns_shape; subst hv71
    intro U
    have m71 := m70.dat 101 rfl (hd70_4.cast (fun _ h => (free_add rfl h))); clear m70 hd70_4
    revert U
    obtain rfl := hd70_5.v_out
    clear hd70_5
    obtain rfl := hd70_6.v_out
    clear hd70_6
    obtain rfl := hd70_7.v_out
    clear hd70_7
    obtain rfl := hd70_8.v_out
    clear hd70_8
    obtain ⟨p72,c72,hv72,hc72⟩ := hd70_9.ns_shape; subst hv72
    intro U
    have m72 := m71.dat 102 rfl (hd70_9.cast (fun _ h => (free_add rfl (free_add rfl h)))); clear m71 hd70_9
    revert U
    obtain ⟨p73,c73,hv73,hc73⟩ := hd70_10.l_shape; subst hv73
    intro U
    have m73 := m72.dat 103 rfl (hd70_10.cast (fun _ h => (free_add rfl (free_add rfl (free_add rfl h))))); clear m72 hd70_10
    have m74 := m73.oz [1,2,4,5,8,9,10,100,101,102,103]
    refine region_p 14 (B := [(1,_),(2,_),(4,_),(5,_),(8,_),(9,_),(10,_),(100,_),(101,_),(102,_),(103,_)]) (m74.to ⟨il,il,il,il,il,il,il,il,il,il,il,trivial⟩) m74 (by kernel_rfl) (fun w75 hP75 m75 =>?_); clear m74
    refine goA hP75 [0,1,2,3,4] 5 0 31 U (m75.to ⟨il,il,il,il,il,il,il,il,il,il,il,trivial⟩) (.move rfl<|.move rfl<|.len rfl U30<|.lss rfl rfl<|.move rfl .nil) fun Y U =>?_
    refine bc U 49 ?_ ?_
    rotate_left
    · intro hb _; exact absurd hb (by simpa using hk)
    clear U; intro _ U
    refine goR hP75 [5,6,7,8,9,10,11,12,13] [9,11] 9 31 16383 U (m75.to ⟨il,il,il,il,il,il,il,il,il,il,il,trivial⟩) (.move rfl<|.move rfl<|.p (fun _ _ h_ => y_idx h_ rfl rfl U30 fct13 (k) rfl hk)<|.fieldAddrQ 0 rfl U51 rfl (s := 0) (by kernel_rfl) rfl<|.loadC0 hh (i := 100) rfl rfl U3 rfl<|.fa 1 rfl U38<|.lb hh 5 U3 rfl rfl rfl<|.lss rfl rfl<|.pickT rfl rfl .nil) fun Y U =>?_
    refine wpAnyE_done (by kernel_rfl) ?_ _
    refine hK13 _ _ ?_
    refine bc U 58 ?_ ?_
    ·
     intro hb91 U; try simp only [QQ,Qax] at hb91
     have hlt9 : z9.vo < vo := by simpa using hb91
     refine wct U ?_
     refine zss (hK12 _ _ ?_)
     refine wp_block ?_
     replace U := U.oz [0,4,5,7,8,9]
     refine wp_region_lit ?_
     refine goCh U (.move rfl<|.inc (k + 1)<|.assign rfl .nil) fun Y U =>?_
     refine wpList_nil ?_
     show ∃ n',n' < _ ∧ _
     exact ⟨(L.map volD).length - (k + 1),by omega,k + 1,_,_,_,_,_,_,_,_,_,_,_,_,_,by omega,lt_snocV hbl hes9 hlt9,rfl,U.only [0,4,5,7,8,9],m75.only [1,2,4,5,9,8,10]⟩
    intro hb91 U; try simp only [QQ,Qax] at hb91
    have hge9 : ∀ z,L[k]? = some z → ¬ z.vo < vo := fun z hz => by rw [hes9] at hz; injection hz with hz; subst hz; simpa using hb91
    refine wcf U ?_
    refine wp_exit ?_
    refine hK11 _ _ ?_
    refine wsk fun K14 hK14 =>?_
    replace U := U.oz [0,4,5,7,8,9]
    have m97 := m75.oz [1,2,4,5,8,9,10,100,101,102,103]
    refine region_p 14 (B := [(1,_),(2,_),(4,_),(5,_),(8,_),(9,_),(10,_),(100,_),(101,_),(102,_),(103,_)]) (m97.to ⟨il,il,il,il,il,il,il,il,il,il,il,trivial⟩) m97 (by kernel_rfl) (fun w98 hP98 m98 =>?_); clear m97
    refine goA hP98 [0,1,2] 3 0 7 U (m98.to ⟨il,il,il,il,il,il,il,il,il,il,il,trivial⟩) (.move rfl<|.move rfl<|.move rfl .nil) fun Y U =>?_
    have hcap103 := Rd.capL (m98.rd (i := 8) rfl)
    have m102 := m98.takeR (i := 8) rfl k hkl 104 rfl
    refine goR hP98 [3,5,8,9] [5] 4 7 815 U (m102.to ⟨il,il,il,il,il,il,il,il,il,il,il,trivial⟩) (.p (fun _ _ h_ => y_sliceHn h_ k rfl rfl U30 fct13 rfl (Nat.le_trans hkl hcap103))<|.loadBR hh (i := 9) rfl rfl U51 rfl fct13 (by simp) (by dsimp only [List.drop,List.take] <;> rfl)<|.move rfl<|.move rfl .nil) fun Y U =>?_
    have m108 := m102.dropR (i := 8) rfl k hkl 105 rfl
    refine goA hP98 [10] 1 815 1839 U (m108.to ⟨il,il,il,il,il,il,il,il,il,il,il,trivial⟩) (.p (fun _ _ h_ => y_sliceLn h_ k rfl rfl U30 fct13 rfl hkl) .nil) fun Y U =>?_
    refine d_two 4 6 rfl rfl (by kernel_rfl) rfl rfl (fun K hK =>?_) (fun K hK =>?_)
    ·
     have m110 := m108.nilR 106 51 11
     refine e_appR U m110 106 rfl rfl rfl (m110.rd (i := 104) rfl) U30 fct31 rfl rfl (by decide) (by simp; omega) rfl ?_
     intro p111 c111 Y w112 U m112
     refine hK _ _ (fun _ => (m112.to ⟨il,il,il,il,il,il,il,il,il,il,il,trivial⟩)) ?_; clear hK K
     refine so 6 ?_
     refine e_litR U m112 107 (mm := 11) rfl (.cons rfl rfl (.cons (.v _) (.cons (.v _) (.cons (.v _) (.cons (.v _) (.cons (m112.rd (i := 10) rfl) (.cons (.v _) (.cons (.v _) (.cons (.v _) (.cons (.v _) (.cons (Rd.nilN _ _ .i64 _) (.cons (.l0 _ _ 2) .nil))))))))))) .nil) U30 fct31 rfl rfl rfl rfl rfl fun g113 Y w114 U m114 =>?_
     refine ⟨m114.to ⟨il,il,il,il,il,il,il,il,il,il,il,trivial⟩,?_⟩
     have m116 := m114.freezeR 107 rfl
     refine so 7 ?_
     refine e_appR U m116 106 rfl rfl rfl (m116.rd (i := 107) rfl) U30 fct31 rfl rfl (by decide) (by simp; omega) rfl fun p115 c115 Y w117 U m117 =>?_
     refine ⟨m117.to ⟨il,il,il,il,il,il,il,il,il,il,il,trivial⟩,?_⟩
     refine so 11 ?_
     refine e_appR U m117 106 rfl rfl rfl (m117.rd (i := 105) rfl) U30 fct31 rfl rfl (by decide) (by simp; omega) rfl fun p118 c118 Y w119 U m119 =>?_
     refine ⟨m119.to ⟨il,il,il,il,il,il,il,il,il,il,il,trivial⟩,?_⟩
     refine goA hP98 [12,13] 2 4095 16383 U (m119.to ⟨il,il,il,il,il,il,il,il,il,il,il,trivial⟩) (.nilCheck rfl<|.fa 0 rfl U32 .nil) fun Y U =>?_
     refine se 14 ?_
     refine st1 U m119 1 fct37 fun w122 m122 _ =>?_
     refine wpAnyE_done (by kernel_rfl) ?_ _
     refine hK14 _ _ ?_
     replace U := U.oz [0,4,5,7,8,9]
     refine zsr fun K15 hK15 =>?_
     refine goCh U (.build rfl fct26 fl44ymA rfl (by dsimp only [setL,List.set] <;> rfl) .nil) fun Y U =>?_
     refine plz (stw U m122 4 fct25 fun w126 m126 _ =>?_)
     refine znl (hK15 _ _ ?_)
     refine rtd (retC (fn := Tryz.f15) U m126 (i := 4) rfl rfl rfl U44 rfl fct25 ?_)
     have m127 := m126.freezeR 106 rfl
     have hrw : [] ++ List.take k (L.map volD) ++ [[.v (.int .i64 (newV vo bl sz pe to place).vo),.v (.int .i64 (newV vo bl sz pe to place).bl),.v (.int .i64 (newV vo bl sz pe to place).sz),.v (.int .i64 (newV vo bl sz pe to place).pe),.ns .i64 (newV vo bl sz pe to place).place,.v (.int .i64 (newV vo bl sz pe to place).to),.v (.int .i64 (newV vo bl sz pe to place).ne),.v (.bool (newV vo bl sz pe to place).hi),.v (.int .i64 (newV vo bl sz pe to place).fl),.ns .i64 (newV vo bl sz pe to place).pins,.l 2 ((newV vo bl sz pe to place).ws.map wrD)]] ++ List.drop k (L.map volD) = (L.take k ++ [newV vo bl sz pe to place] ++ L.drop k).map volD := by simp [volD,newV]
     simp only [newV] at hrw
     erw [hrw] at m127
     exact ⟨L.take k ++ [newV vo bl sz pe to place] ++ L.drop k,0,0,0,0,_,_,rfl,rApp_new (c := (⟨kd,vo,bl,sz,pe,place,to,at0,ix,items⟩ : Cm)) hkd hnx hN (by simpa using hkl) hbl hge9,m127.ren [(1,1),(2,106)] (by decide)⟩
    refine e_litR U m108 106 (mm := 11) rfl (.cons rfl rfl (.cons (.v _) (.cons (.v _) (.cons (.v _) (.cons (.v _) (.cons (m108.rd (i := 10) rfl) (.cons (.v _) (.cons (.v _) (.cons (.v _) (.cons (.v _) (.cons (Rd.nilN _ _ .i64 _) (.cons (.l0 _ _ 2) .nil))))))))))) .nil) U30 fct31 rfl rfl rfl rfl rfl ?_
    intro g128 Y w129 U m129
    refine hK _ _ (fun _ => (m129.to ⟨il,il,il,il,il,il,il,il,il,il,il,trivial⟩)) ?_; clear hK K
    have m130 := m129.nilR 107 51 11
    refine so 4 ?_
    refine e_appR U m130 107 rfl rfl rfl (m130.rd (i := 104) rfl) U30 fct31 rfl rfl (by decide) (by simp; omega) rfl fun p131 c131 Y w132 U m132 =>?_
    refine ⟨m132.to ⟨il,il,il,il,il,il,il,il,il,il,il,trivial⟩,?_⟩
    have m134 := m132.freezeR 106 rfl
    refine so 7 ?_
    refine e_appR U m134 107 rfl rfl rfl (m134.rd (i := 106) rfl) U30 fct31 rfl rfl (by decide) (by simp; omega) rfl fun p133 c133 Y w135 U m135 =>?_
    refine ⟨m135.to ⟨il,il,il,il,il,il,il,il,il,il,il,trivial⟩,?_⟩
    refine so 11 ?_
    refine e_appR U m135 107 rfl rfl rfl (m135.rd (i := 105) rfl) U30 fct31 rfl rfl (by decide) (by simp; omega) rfl fun p136 c136 Y w137 U m137 =>?_
    refine ⟨m137.to ⟨il,il,il,il,il,il,il,il,il,il,il,trivial⟩,?_⟩
    refine goA hP98 [12,13] 2 4095 16383 U (m137.to ⟨il,il,il,il,il,il,il,il,il,il,il,trivial⟩) (.nilCheck rfl<|.fa 0 rfl U32 .nil) fun Y U =>?_
    refine se 14 ?_
    refine st1 U m137 1 fct37 fun w140 m140 _ =>?_
    refine wpAnyE_done (by kernel_rfl) ?_ _
    refine hK14 _ _ ?_
    replace U := U.oz [0,4,5,7,8,9]
    refine zsr fun K16 hK16 =>?_
    refine goCh U (.build rfl fct26 fl44ymA rfl (by dsimp only [setL,List.set] <;> rfl) .nil) fun Y U =>?_
    refine plz (stw U m140 4 fct25 fun w144 m144 _ =>?_)
    refine znl (hK16 _ _ ?_)
    refine rtd (retC (fn := Tryz.f15) U m144 (i := 4) rfl rfl rfl U44 rfl fct25 ?_)
    have m145 := m144.freezeR 107 rfl
    have hrw : [] ++ List.take k (L.map volD) ++ [[.v (.int .i64 (newV vo bl sz pe to place).vo),.v (.int .i64 (newV vo bl sz pe to place).bl),.v (.int .i64 (newV vo bl sz pe to place).sz),.v (.int .i64 (newV vo bl sz pe to place).pe),.ns .i64 (newV vo bl sz pe to place).place,.v (.int .i64 (newV vo bl sz pe to place).to),.v (.int .i64 (newV vo bl sz pe to place).ne),.v (.bool (newV vo bl sz pe to place).hi),.v (.int .i64 (newV vo bl sz pe to place).fl),.ns .i64 (newV vo bl sz pe to place).pins,.l 2 ((newV vo bl sz pe to place).ws.map wrD)]] ++ List.drop k (L.map volD) = (L.take k ++ [newV vo bl sz pe to place] ++ L.drop k).map volD := by simp [volD,newV]
    simp only [newV] at hrw
    erw [hrw] at m145
    exact ⟨L.take k ++ [newV vo bl sz pe to place] ++ L.drop k,0,0,0,0,_,_,rfl,rApp_new (c := (⟨kd,vo,bl,sz,pe,place,to,at0,ix,items⟩ : Cm)) hkd hnx hN (by simpa using hkl) hbl hge9,m145.ren [(1,1),(2,107)] (by decide)⟩
   have hge9 : ∀ z,L[k]? = some z → ¬ z.vo < vo := fun z hz => absurd (List.getElem?_eq_some_iff.1 hz).1 (by simpa using hk)
   have m146 := m69.oz [1,2,4,5,8,9,10]
   refine region_p 14 (B := [(1,_),(2,_),(4,_),(5,_),(8,_),(9,_),(10,_)]) (m146.to ⟨il,il,il,il,il,il,il,trivial⟩) m146 (by kernel_rfl) (fun w147 hP147 m147 =>?_); clear m146
   refine goA hP147 [0,1,2,3,4] 5 0 31 U (m147.to ⟨il,il,il,il,il,il,il,trivial⟩) (.move rfl<|.move rfl<|.len rfl U30<|.lss rfl rfl<|.move rfl .nil) fun Y U =>?_
   refine bc U 49 ?_ ?_
   · intro hb _; exact absurd hb (by simpa using hk)
   clear U; intro _ U
   refine goA hP147 [5,6,7,8,9,10,11,12,13] 9 31 16383 U (m147.to ⟨il,il,il,il,il,il,il,trivial⟩) (.s<|.s<|.s<|.s<|.s<|.s<|.s<|.s<|.pickF rfl rfl .nil) fun Y U =>?_
   refine wpAnyE_done (by kernel_rfl) ?_ _
   refine hK13 _ _ ?_
   refine wcf U ?_
   refine wp_exit ?_
   refine hK11 _ _ ?_
   refine wsk fun K17 hK17 =>?_
   replace U := U.oz [0,4,5,7,8,9]
   have m164 := m147.oz [1,2,4,5,8,9,10]
   refine region_p 14 (B := [(1,_),(2,_),(4,_),(5,_),(8,_),(9,_),(10,_)]) (m164.to ⟨il,il,il,il,il,il,il,trivial⟩) m164 (by kernel_rfl) (fun w165 hP165 m165 =>?_); clear m164
   refine goA hP165 [0,1,2] 3 0 7 U (m165.to ⟨il,il,il,il,il,il,il,trivial⟩) (.move rfl<|.move rfl<|.move rfl .nil) fun Y U =>?_
   have hcap170 := Rd.capL (m165.rd (i := 8) rfl)
   have m169 := m165.takeR (i := 8) rfl k hkl 100 rfl
   refine goR hP165 [3,5,8,9] [5] 4 7 815 U (m169.to ⟨il,il,il,il,il,il,il,trivial⟩) (.p (fun _ _ h_ => y_sliceHn h_ k rfl rfl U30 fct13 rfl (Nat.le_trans hkl hcap170))<|.loadBR hh (i := 9) rfl rfl U51 rfl fct13 (by simp) (by dsimp only [List.drop,List.take] <;> rfl)<|.move rfl<|.move rfl .nil) fun Y U =>?_
   have m175 := m169.dropR (i := 8) rfl k hkl 101 rfl
   refine goA hP165 [10] 1 815 1839 U (m175.to ⟨il,il,il,il,il,il,il,trivial⟩) (.p (fun _ _ h_ => y_sliceLn h_ k rfl rfl U30 fct13 rfl hkl) .nil) fun Y U =>?_
   refine d_two 4 6 rfl rfl (by kernel_rfl) rfl rfl (fun K hK =>?_) (fun K hK =>?_)
   ·
    have m177 := m175.nilR 102 51 11
    refine e_appR U m177 102 rfl rfl rfl (m177.rd (i := 100) rfl) U30 fct31 rfl rfl (by decide) (by simp; omega) rfl ?_
    intro p178 c178 Y w179 U m179
    refine hK _ _ (fun _ => (m179.to ⟨il,il,il,il,il,il,il,trivial⟩)) ?_; clear hK K
    refine so 6 ?_
    refine e_litR U m179 103 (mm := 11) rfl (.cons rfl rfl (.cons (.v _) (.cons (.v _) (.cons (.v _) (.cons (.v _) (.cons (m179.rd (i := 10) rfl) (.cons (.v _) (.cons (.v _) (.cons (.v _) (.cons (.v _) (.cons (Rd.nilN _ _ .i64 _) (.cons (.l0 _ _ 2) .nil))))))))))) .nil) U30 fct31 rfl rfl rfl rfl rfl fun g180 Y w181 U m181 =>?_
    refine ⟨m181.to ⟨il,il,il,il,il,il,il,trivial⟩,?_⟩
    have m183 := m181.freezeR 103 rfl
    refine so 7 ?_
    refine e_appR U m183 102 rfl rfl rfl (m183.rd (i := 103) rfl) U30 fct31 rfl rfl (by decide) (by simp; omega) rfl fun p182 c182 Y w184 U m184 =>?_
    refine ⟨m184.to ⟨il,il,il,il,il,il,il,trivial⟩,?_⟩
    refine so 11 ?_
    refine e_appR U m184 102 rfl rfl rfl (m184.rd (i := 101) rfl) U30 fct31 rfl rfl (by decide) (by simp; omega) rfl fun p185 c185 Y w186 U m186 =>?_
    refine ⟨m186.to ⟨il,il,il,il,il,il,il,trivial⟩,?_⟩
    refine goA hP165 [12,13] 2 4095 16383 U (m186.to ⟨il,il,il,il,il,il,il,trivial⟩) (.nilCheck rfl<|.fa 0 rfl U32 .nil) fun Y U =>?_
    refine se 14 ?_
    refine st1 U m186 1 fct37 fun w189 m189 _ =>?_
    refine wpAnyE_done (by kernel_rfl) ?_ _
    refine hK17 _ _ ?_
    replace U := U.oz [0,4,5,7,8,9]
    refine zsr fun K18 hK18 =>?_
    refine goCh U (.build rfl fct26 fl44ymA rfl (by dsimp only [setL,List.set] <;> rfl) .nil) fun Y U =>?_
    refine plz (stw U m189 4 fct25 fun w193 m193 _ =>?_)
    refine znl (hK18 _ _ ?_)
    refine rtd (retC (fn := Tryz.f15) U m193 (i := 4) rfl rfl rfl U44 rfl fct25 ?_)
    have m194 := m193.freezeR 102 rfl
    have hrw : [] ++ List.take k (L.map volD) ++ [[.v (.int .i64 (newV vo bl sz pe to place).vo),.v (.int .i64 (newV vo bl sz pe to place).bl),.v (.int .i64 (newV vo bl sz pe to place).sz),.v (.int .i64 (newV vo bl sz pe to place).pe),.ns .i64 (newV vo bl sz pe to place).place,.v (.int .i64 (newV vo bl sz pe to place).to),.v (.int .i64 (newV vo bl sz pe to place).ne),.v (.bool (newV vo bl sz pe to place).hi),.v (.int .i64 (newV vo bl sz pe to place).fl),.ns .i64 (newV vo bl sz pe to place).pins,.l 2 ((newV vo bl sz pe to place).ws.map wrD)]] ++ List.drop k (L.map volD) = (L.take k ++ [newV vo bl sz pe to place] ++ L.drop k).map volD := by simp [volD,newV]
    simp only [newV] at hrw
    erw [hrw] at m194
    exact ⟨L.take k ++ [newV vo bl sz pe to place] ++ L.drop k,0,0,0,0,_,_,rfl,rApp_new (c := (⟨kd,vo,bl,sz,pe,place,to,at0,ix,items⟩ : Cm)) hkd hnx hN (by simpa using hkl) hbl hge9,m194.ren [(1,1),(2,102)] (by decide)⟩
   refine e_litR U m175 102 (mm := 11) rfl (.cons rfl rfl (.cons (.v _) (.cons (.v _) (.cons (.v _) (.cons (.v _) (.cons (m175.rd (i := 10) rfl) (.cons (.v _) (.cons (.v _) (.cons (.v _) (.cons (.v _) (.cons (Rd.nilN _ _ .i64 _) (.cons (.l0 _ _ 2) .nil))))))))))) .nil) U30 fct31 rfl rfl rfl rfl rfl ?_
   intro g195 Y w196 U m196
   refine hK _ _ (fun _ => (m196.to ⟨il,il,il,il,il,il,il,trivial⟩)) ?_; clear hK K
   have m197 := m196.nilR 103 51 11
   refine so 4 ?_
   refine e_appR U m197 103 rfl rfl rfl (m197.rd (i := 100) rfl) U30 fct31 rfl rfl (by decide) (by simp; omega) rfl fun p198 c198 Y w199 U m199 =>?_
   refine ⟨m199.to ⟨il,il,il,il,il,il,il,trivial⟩,?_⟩
   have m201 := m199.freezeR 102 rfl
   refine so 7 ?_
   refine e_appR U m201 103 rfl rfl rfl (m201.rd (i := 102) rfl) U30 fct31 rfl rfl (by decide) (by simp; omega) rfl fun p200 c200 Y w202 U m202 =>?_
   refine ⟨m202.to ⟨il,il,il,il,il,il,il,trivial⟩,?_⟩
   refine so 11 ?_
   refine e_appR U m202 103 rfl rfl rfl (m202.rd (i := 101) rfl) U30 fct31 rfl rfl (by decide) (by simp; omega) rfl fun p203 c203 Y w204 U m204 =>?_
   refine ⟨m204.to ⟨il,il,il,il,il,il,il,trivial⟩,?_⟩
   refine goA hP165 [12,13] 2 4095 16383 U (m204.to ⟨il,il,il,il,il,il,il,trivial⟩) (.nilCheck rfl<|.fa 0 rfl U32 .nil) fun Y U =>?_
   refine se 14 ?_
   refine st1 U m204 1 fct37 fun w207 m207 _ =>?_
   refine wpAnyE_done (by kernel_rfl) ?_ _
   refine hK17 _ _ ?_
   replace U := U.oz [0,4,5,7,8,9]
   refine zsr fun K19 hK19 =>?_
   refine goCh U (.build rfl fct26 fl44ymA rfl (by dsimp only [setL,List.set] <;> rfl) .nil) fun Y U =>?_
   refine plz (stw U m207 4 fct25 fun w211 m211 _ =>?_)
   refine znl (hK19 _ _ ?_)
   refine rtd (retC (fn := Tryz.f15) U m211 (i := 4) rfl rfl rfl U44 rfl fct25 ?_)
   have m212 := m211.freezeR 103 rfl
   have hrw : [] ++ List.take k (L.map volD) ++ [[.v (.int .i64 (newV vo bl sz pe to place).vo),.v (.int .i64 (newV vo bl sz pe to place).bl),.v (.int .i64 (newV vo bl sz pe to place).sz),.v (.int .i64 (newV vo bl sz pe to place).pe),.ns .i64 (newV vo bl sz pe to place).place,.v (.int .i64 (newV vo bl sz pe to place).to),.v (.int .i64 (newV vo bl sz pe to place).ne),.v (.bool (newV vo bl sz pe to place).hi),.v (.int .i64 (newV vo bl sz pe to place).fl),.ns .i64 (newV vo bl sz pe to place).pins,.l 2 ((newV vo bl sz pe to place).ws.map wrD)]] ++ List.drop k (L.map volD) = (L.take k ++ [newV vo bl sz pe to place] ++ L.drop k).map volD := by simp [volD,newV]
   simp only [newV] at hrw
   erw [hrw] at m212
   exact ⟨L.take k ++ [newV vo bl sz pe to place] ++ L.drop k,0,0,0,0,_,_,rfl,rApp_new (c := (⟨kd,vo,bl,sz,pe,place,to,at0,ix,items⟩ : Cm)) hkd hnx hN (by simpa using hkl) hbl hge9,m212.ren [(1,1),(2,103)] (by decide)⟩
  refine wp_region_lit ?_
  refine goCh U (.loadBR m46 (i := 23) rfl rfl U38 rfl fct18 (by simp) (by dsimp only [List.drop,List.take] <;> rfl) .nil) fun Y U =>?_
  refine plz (ecb U Tryz.func50 rfl m46 (rnew_non _ vo bl sz pe to _ _ place _ _ _ _ _ _ ((m46.rd (i := 21) rfl).any) (by omega) hN) fun Y w214 U m215 =>?_)
  refine goCh U (.move rfl<|.extract rfl rfl<|.extract rfl rfl .nil) fun Y U =>?_
  refine plz (e_alloc U m215 25 fct14 rfl fun g220 Y w221 U m221 _ _ =>?_)
  refine plz (stw U m221 25 fct13 fun w222 m222 _ =>?_)
  refine gz hK9 U (.assign rfl .nil) fun Y U =>?_
  refine wsk fun K20 hK20 =>?_
  replace U := U.oz [0,4,5,7,8,9,10]
  refine regS U (.move rfl<|.neq rfl rfl .nil) fun Y U =>?_
  refine bc U 42 ?_ ?_
  rotate_left
  · intro hb _; exact absurd hb (by simp)
  clear U; intro _ U
  refine wct U ?_
  refine zsr fun K21 hK21 =>?_
  refine goCh U (.move rfl<|.build rfl fct26 fl44ymA rfl (by dsimp only [setL,List.set] <;> rfl) .nil) fun Y U =>?_
  refine plz (stw U m222 20 fct25 fun w232 m232 _ =>?_)
  refine znl (hK21 _ _ ?_)
  refine rtd (retC (fn := Tryz.f15) U m232 (i := 20) rfl rfl rfl U44 rfl fct25 ?_)
  first | exact ⟨L,_,_,_,_,_,_,rfl,rApp_ex (c := (⟨kd,vo,bl,sz,pe,place,to,at0,ix,items⟩ : Cm)) hkd hex,m232.only [1,2]⟩ | exact ⟨L,_,_,_,_,_,_,rfl,rApp_bad (c := (⟨kd,vo,bl,sz,pe,place,to,at0,ix,items⟩ : Cm)) hkd hnx hN,m232.only [1,2]⟩ | exact ⟨L,_,_,_,_,_,_,rfl,rApp_no (c := (⟨kd,vo,bl,sz,pe,place,to,at0,ix,items⟩ : Cm)) hkn hnx,m232.only [1,2]⟩
 intro hb43 U; try simp only [QQ,Qax] at hb43
 have hkn : ¬ kd = 1 := by simpa using hb43
 refine wcf U ?_
 refine zss (hK5 _ _ ?_)
 refine wsk fun K22 hK22 =>?_
 replace U := U.oz [0,4,5,7,8]
 refine regS U (.move rfl<|.lss rfl rfl .nil) fun Y U =>?_
 refine bc U 77 ?_ ?_
 ·
  intro hb236 U; try simp only [QQ,Qax] at hb236
  have hnx : ¬ ∃ y ∈ L,y.vo = vo := fnd_nx hj (by have h9 := hb236; first | omega | (simp at h9; omega))
  refine wct U ?_
  refine zsr fun K23 hK23 =>?_
  refine goCh U (.build rfl fct26 fl44ymA rfl (by dsimp only [setL,List.set] <;> rfl) .nil) fun Y U =>?_
  refine plz (stw U m38 20 fct25 fun w239 m239 _ =>?_)
  refine znl (hK23 _ _ ?_)
  refine rtd (retC (fn := Tryz.f15) U m239 (i := 20) rfl rfl rfl U44 rfl fct25 ?_)
  first | exact ⟨L,_,_,_,_,_,_,rfl,rApp_ex (c := (⟨kd,vo,bl,sz,pe,place,to,at0,ix,items⟩ : Cm)) hkd hex,m239.only [1,2]⟩ | exact ⟨L,_,_,_,_,_,_,rfl,rApp_bad (c := (⟨kd,vo,bl,sz,pe,place,to,at0,ix,items⟩ : Cm)) hkd hnx hN,m239.only [1,2]⟩ | exact ⟨L,_,_,_,_,_,_,rfl,rApp_no (c := (⟨kd,vo,bl,sz,pe,place,to,at0,ix,items⟩ : Cm)) hkn hnx,m239.only [1,2]⟩
 intro hb236 U; try simp only [QQ,Qax] at hb236
 revert U
 obtain ⟨jn,x,rfl,hes,hxv⟩ := fnd_get hj (by have h9 := hb236; first | omega | (simp at h9; omega))
 intro U
 have hjl : jn < L.length := (List.getElem?_eq_some_iff.1 hes).1
 refine wcf U ?_
 refine zss (hK22 _ _ ?_)
 refine wsk fun K24 hK24 =>?_
 have hC24 : ∀ (a : Act) (w : World),(∃ (y : VolV) (e9 rl rf rn : Int) (B4 B11 B12 c8 d1 d2 d3 : Nat) (p8 p1 p2 p3 : Option Addr),doV x (⟨kd,vo,bl,sz,pe,place,to,at0,ix,items⟩ : Cm) = (y,e9) ∧ repV y e9 = (rl,rf,rn) ∧ Has 97 [(0,.pointer (some ⟨B,0,none⟩)),(4,.pointer (some ⟨B4,0,none⟩)),(7,.int .i64 jn),(8,.slice p8 ([] ++ (L.map volD)).length c8),(11,.pointer (some ⟨B11,0,none⟩)),(12,.pointer (some ⟨B12,0,none⟩))] a ∧ MemOk X w0 [(1,.box B 32 [.slice p (L.map volD).length c]),(2,.dat (.slice p (L.map volD).length c) (.l 11 (L.map volD))),(4,.box B4 44 [.int .i64 0,.int .i64 0,.int .i64 0,.int .i64 0,.slice none 0 0]),(8,.row (.slice p8 ([] ++ (L.map volD)).length c8) 51 11 ([] ++ (L.map volD))),(11,.box B11 51 [.int .i64 y.vo,.int .i64 y.bl,.int .i64 y.sz,.int .i64 y.pe,.slice p1 y.place.length d1,.int .i64 y.to,.int .i64 y.ne,.bool y.hi,.int .i64 y.fl,.slice p2 y.pins.length d2,.slice p3 (y.ws.map wrD).length d3]),(12,.box B12 44 [.int .i64 e9,.int .i64 rl,.int .i64 rf,.int .i64 rn,.slice none 0 0]),(13,.dat (.slice p1 y.place.length d1) (.ns .i64 y.place)),(14,.dat (.slice p2 y.pins.length d2) (.ns .i64 y.pins)),(15,.dat (.slice p3 (y.ws.map wrD).length d3) (.l 2 (y.ws.map wrD)))] w) → K24 a w := by
   clear U m38
   rintro Y w240 ⟨y,e9,rl,rf,rn,B4,B11,B12,c8,d1,d2,d3,p8,p1,p2,p3,hdo,hrp,U,m240⟩
   refine hK24 _ _ ?_
   refine zsr fun K25 hK25 =>?_
   refine goCh U (.move rfl<|.move rfl<|.loadBR m240 (i := 11) rfl rfl U51 rfl fct13 (by simp) (by dsimp only [List.drop,List.take] <;> rfl) .nil) fun Y U =>?_
   obtain ⟨gr248,cr248,hp248,_⟩ := m240.openC (i := 8) rfl (Nat.lt_of_le_of_lt (Nat.zero_le jn) (by simpa using hjl)); cases hp248
   refine goCh U (.c rfl (fun _ h_ => y_idx h_ rfl rfl U30 fct13 (jn) rfl (by simpa using hjl)) .nil) fun Y U =>?_
   refine plz (e_storeRW U m240 8 rfl (jn) (by simpa using hjl) rfl rfl rfl rfl rfl fct13 (.cons (.v _) (.cons (.v _) (.cons (.v _) (.cons (.v _) (.cons (m240.rd (i := 13) rfl) (.cons (.v _) (.cons (.v _) (.cons (.v _) (.cons (.v _) (.cons (m240.rd (i := 14) rfl) (.cons (m240.rd (i := 15) rfl) .nil))))))))))) fun w250 m250 =>?_)
   refine znl (hK25 _ _ ?_)
   replace U := U.oz [0,4,8,12]
   refine zsr fun K26 hK26 =>?_
   refine goCh U (.move rfl<|.move rfl<|.nilCheck rfl<|.fa 0 rfl U32 .nil) fun Y U =>?_
   refine plz (st1 U m250 1 fct37 fun w260 m260 _ =>?_)
   refine znl (hK26 _ _ ?_)
   replace U := U.oz [4,12]
   refine zsr fun K27 hK27 =>?_
   refine goCh U (.loadBR m260 (i := 12) rfl rfl U44 rfl fct25 (by simp) (by dsimp only [List.drop,List.take] <;> rfl) .nil) fun Y U =>?_
   refine plz (stw U m260 4 fct25 fun w264 m264 _ =>?_)
   refine znl (hK27 _ _ ?_)
   refine rtd (retC (fn := Tryz.f15) U m264 (i := 4) rfl rfl rfl U44 rfl fct25 ?_)
   have m265 := m264.freezeR 8 rfl
   have hrw : ([] ++ (L.map volD)).set jn [.v (.int .i64 y.vo),.v (.int .i64 y.bl),.v (.int .i64 y.sz),.v (.int .i64 y.pe),.ns .i64 y.place,.v (.int .i64 y.to),.v (.int .i64 y.ne),.v (.bool y.hi),.v (.int .i64 y.fl),.ns .i64 y.pins,.l 2 (y.ws.map wrD)] = (L.set jn y).map volD := by rw [List.nil_append,List.map_set]; rfl
   have hln : ([] ++ (L.map volD)).length = ((L.set jn y).map volD).length := by simp
   rw [hrw,hln] at m265
   exact ⟨L.set jn y,_,_,_,_,_,_,rfl,rApp_do (c := (⟨kd,vo,bl,sz,pe,place,to,at0,ix,items⟩ : Cm)) hkn hU hes hxv hdo hrp,m265.ren [(1,1),(2,8)] (by decide)⟩
 obtain ⟨gr267,cr267,hp267,m267⟩ := m38.openC (i := 24) rfl (Nat.lt_of_le_of_lt (Nat.zero_le (jn)) (by simpa using hjl))
 revert U
 cases hp267
 intro U
 obtain ⟨vs268,hc268,hR268⟩ := m267.eltC (i := 24) rfl (jn) (r := [.v (.int .i64 x.vo),.v (.int .i64 x.bl),.v (.int .i64 x.sz),.v (.int .i64 x.pe),.ns .i64 x.place,.v (.int .i64 x.to),.v (.int .i64 x.ne),.v (.bool x.hi),.v (.int .i64 x.fl),.ns .i64 x.pins,.l 2 (x.ws.map wrD)]) (by simpa using volD_get hes)
 revert U
 rcases hR268 with _ | ⟨hd268_0,_ | ⟨hd268_1,_ | ⟨hd268_2,_ | ⟨hd268_3,_ | ⟨hd268_4,_ | ⟨hd268_5,_ | ⟨hd268_6,_ | ⟨hd268_7,_ | ⟨hd268_8,_ | ⟨hd268_9,_ | ⟨hd268_10,_ | _⟩⟩⟩⟩⟩⟩⟩⟩⟩⟩⟩
 obtain rfl := hd268_0.v_out
 clear hd268_0
 obtain rfl := hd268_1.v_out
 clear hd268_1
 obtain rfl := hd268_2.v_out
 clear hd268_2
 obtain rfl := hd268_3.v_out
 clear hd268_3
 obtain ⟨p269,c269,hv269,hw269⟩ := hd268_4.ns_shape; subst hv269
 intro U
 have m269 := m267.dat 25 rfl (hd268_4.cast (fun _ h => h)); clear m267 hd268_4
 revert U
 obtain rfl := hd268_5.v_out
 clear hd268_5
 obtain rfl := hd268_6.v_out
 clear hd268_6
 obtain rfl := hd268_7.v_out
 clear hd268_7
 obtain rfl := hd268_8.v_out
 clear hd268_8
 obtain ⟨p270,c270,hv270,hw270⟩ := hd268_9.ns_shape; subst hv270
 intro U
 have m270 := m269.dat 26 rfl (hd268_9.cast (fun _ h => (free_add rfl h))); clear m269 hd268_9
 revert U
 obtain ⟨p271,c271,hv271,hw271⟩ := hd268_10.l_shape; subst hv271
 intro U
 have m271 := m270.dat 27 rfl (hd268_10.cast (fun _ h => (free_add rfl (free_add rfl h)))); clear m270 hd268_10
 have m272 := m271.oz [1,2,20,21,22,23,24,25,26,27]
 refine region_p 5 (B := [(1,_),(2,_),(20,_),(21,_),(22,_),(23,_),(24,_),(25,_),(26,_),(27,_)]) (m272.to ⟨il,il,il,il,il,il,il,il,il,il,trivial⟩) m272 (by kernel_rfl) (fun w273 hP273 m273 =>?_); clear m272
 refine goR hP273 [0,1,2,3,4] [3,4] 5 0 31 U (m273.to ⟨il,il,il,il,il,il,il,il,il,il,trivial⟩) (.move rfl<|.move rfl<|.p (fun _ _ h_ => y_idx h_ rfl rfl U30 fct13 (jn) rfl (by simpa using hjl))<|.c (fun _ hW _ h_ => y_loadRC h_ hW (i := 24) rfl (jn) hc268 rfl U51 rfl fct13)<|.loadBR hh (i := 23) rfl rfl U38 rfl fct18 (by simp) (by dsimp only [List.drop,List.take] <;> rfl) .nil) fun Y U =>?_
 refine dth 5 9 10 ?_ ?_ ?_
 ·
  refine ecl U Tryz.func40 rfl (rDo_v _ x (⟨kd,vo,bl,sz,pe,place,to,at0,ix,items⟩ : Cm) n (hV _ (List.mem_of_getElem? hes)) hn (show items.length ≤ 1000000 by have := hc.il; omega) (fun e he => itok (hc.ib e he).2) _ _ _ _ _ _ _ _ _ _ _ _ _ _ _ _ _ (m273.into [(1,25),(2,26),(3,27),(4,22)] (by decide) rfl)) ?_
  rintro e w279 ⟨y,e9,rl,rf,rn,p1279,p2279,p3279,d1279,d2279,d3279,rfl,hdo,hrp,hm279⟩
  have mx279 := m273.back hm279 [(28,1),(29,2),(30,3)] (by decide); clear hm279 m273
  have m279 := mx279.oz [28,29,30,1,2,20,21,23,24]
  refine ⟨_,rfl,?_⟩; intro Y U
  refine ⟨fun h => (Bool.false_ne_true (h.symm.trans (by rfl))).elim,?_⟩
  refine goB hP273 [6,7,8] 3 63 511 U (.move rfl<|.extract rfl rfl<|.extract rfl rfl .nil) fun Y U =>?_
  refine dtw 9 10 ?_ ?_
  ·
   refine e_alloc U m279 31 fct14 rfl fun g284 Y w285 U m285 _ _ =>?_
   refine ⟨fun h => (Bool.false_ne_true (h.symm.trans (by rfl))).elim,?_⟩
   refine se 10 ?_
   refine e_alloc U m285 32 fct26 rfl fun g286 Y w287 U m287 _ _ =>?_
   refine se 11 ?_
   refine stw U m287 31 fct13 fun w288 m288 _ =>?_
   refine se 12 ?_
   refine stw U m288 32 fct25 fun w289 m289 _ =>?_
   refine wpAnyE_done (by kernel_rfl) ?_ _
   have m290 := m289.closeC 24 rfl
   show K24 _ _
   exact hC24 _ _ ⟨y,_,_,_,_,_,_,_,_,_,_,_,_,_,_,_,hdo,hrp,U.only [0,4,7,8,11,12],m290.ren [(1,1),(2,2),(4,20),(8,24),(11,31),(12,32),(13,28),(14,29),(15,30)] (by decide)⟩
  refine e_alloc U m279 31 fct26 rfl fun g291 Y w292 U m292 _ _ =>?_
  refine ⟨fun h => (Bool.false_ne_true (h.symm.trans (by rfl))).elim,?_⟩
  refine se 9 ?_
  refine e_alloc U m292 32 fct14 rfl fun g293 Y w294 U m294 _ _ =>?_
  refine se 11 ?_
  refine stw U m294 32 fct13 fun w295 m295 _ =>?_
  refine se 12 ?_
  refine stw U m295 31 fct25 fun w296 m296 _ =>?_
  refine wpAnyE_done (by kernel_rfl) ?_ _
  have m297 := m296.closeC 24 rfl
  show K24 _ _
  exact hC24 _ _ ⟨y,_,_,_,_,_,_,_,_,_,_,_,_,_,_,_,hdo,hrp,U.only [0,4,7,8,11,12],m297.ren [(1,1),(2,2),(4,20),(8,24),(11,32),(12,31),(13,28),(14,29),(15,30)] (by decide)⟩
 ·
  refine e_alloc U m273 28 fct14 rfl fun g298 Y w299 U m299 _ _ =>?_
  refine ⟨fun _ => (m299.to ⟨il,il,il,il,il,il,il,il,il,il,trivial⟩),?_⟩
  refine dtw 5 10 ?_ ?_
  ·
   refine ecl U Tryz.func40 rfl (rDo_v _ x (⟨kd,vo,bl,sz,pe,place,to,at0,ix,items⟩ : Cm) n (hV _ (List.mem_of_getElem? hes)) hn (show items.length ≤ 1000000 by have := hc.il; omega) (fun e he => itok (hc.ib e he).2) _ _ _ _ _ _ _ _ _ _ _ _ _ _ _ _ _ (m299.into [(1,25),(2,26),(3,27),(4,22)] (by decide) rfl)) ?_
   rintro e w300 ⟨y,e9,rl,rf,rn,p1300,p2300,p3300,d1300,d2300,d3300,rfl,hdo,hrp,hm300⟩
   have mx300 := m299.back hm300 [(29,1),(30,2),(31,3)] (by decide); clear hm300 m299
   have m300 := mx300.oz [29,30,31,1,2,20,21,23,24,28]
   refine ⟨_,rfl,?_⟩; intro Y U
   refine ⟨fun h => (Bool.false_ne_true (h.symm.trans (by rfl))).elim,?_⟩
   refine goB hP273 [6,7,8] 3 575 1023 U (.move rfl<|.extract rfl rfl<|.extract rfl rfl .nil) fun Y U =>?_
   refine se 10 ?_
   refine e_alloc U m300 32 fct26 rfl fun g305 Y w306 U m306 _ _ =>?_
   refine se 11 ?_
   refine stw U m306 28 fct13 fun w307 m307 _ =>?_
   refine se 12 ?_
   refine stw U m307 32 fct25 fun w308 m308 _ =>?_
   refine wpAnyE_done (by kernel_rfl) ?_ _
   have m309 := m308.closeC 24 rfl
   show K24 _ _
   exact hC24 _ _ ⟨y,_,_,_,_,_,_,_,_,_,_,_,_,_,_,_,hdo,hrp,U.only [0,4,7,8,11,12],m309.ren [(1,1),(2,2),(4,20),(8,24),(11,28),(12,32),(13,29),(14,30),(15,31)] (by decide)⟩
  refine e_alloc U m299 29 fct26 rfl fun g310 Y w311 U m311 _ _ =>?_
  refine ⟨fun _ => (m311.to ⟨il,il,il,il,il,il,il,il,il,il,trivial⟩),?_⟩
  refine se 5 ?_
  refine ecl U Tryz.func40 rfl (rDo_v _ x (⟨kd,vo,bl,sz,pe,place,to,at0,ix,items⟩ : Cm) n (hV _ (List.mem_of_getElem? hes)) hn (show items.length ≤ 1000000 by have := hc.il; omega) (fun e he => itok (hc.ib e he).2) _ _ _ _ _ _ _ _ _ _ _ _ _ _ _ _ _ (m311.into [(1,25),(2,26),(3,27),(4,22)] (by decide) rfl)) ?_
  rintro e w312 ⟨y,e9,rl,rf,rn,p1312,p2312,p3312,d1312,d2312,d3312,rfl,hdo,hrp,hm312⟩
  have mx312 := m311.back hm312 [(30,1),(31,2),(32,3)] (by decide); clear hm312 m311
  have m312 := mx312.oz [30,31,32,1,2,20,21,23,24,28,29]
  refine ⟨_,rfl,?_⟩; intro Y U
  refine goB hP273 [6,7,8] 3 1599 2047 U (.move rfl<|.extract rfl rfl<|.extract rfl rfl .nil) fun Y U =>?_
  refine se 11 ?_
  refine stw U m312 28 fct13 fun w317 m317 _ =>?_
  refine se 12 ?_
  refine stw U m317 29 fct25 fun w318 m318 _ =>?_
  refine wpAnyE_done (by kernel_rfl) ?_ _
  have m319 := m318.closeC 24 rfl
  show K24 _ _
  exact hC24 _ _ ⟨y,_,_,_,_,_,_,_,_,_,_,_,_,_,_,_,hdo,hrp,U.only [0,4,7,8,11,12],m319.ren [(1,1),(2,2),(4,20),(8,24),(11,28),(12,29),(13,30),(14,31),(15,32)] (by decide)⟩
 refine e_alloc U m273 28 fct26 rfl fun g320 Y w321 U m321 _ _ =>?_
 refine ⟨fun _ => (m321.to ⟨il,il,il,il,il,il,il,il,il,il,trivial⟩),?_⟩
 refine dtw 5 9 ?_ ?_
 ·
  refine ecl U Tryz.func40 rfl (rDo_v _ x (⟨kd,vo,bl,sz,pe,place,to,at0,ix,items⟩ : Cm) n (hV _ (List.mem_of_getElem? hes)) hn (show items.length ≤ 1000000 by have := hc.il; omega) (fun e he => itok (hc.ib e he).2) _ _ _ _ _ _ _ _ _ _ _ _ _ _ _ _ _ (m321.into [(1,25),(2,26),(3,27),(4,22)] (by decide) rfl)) ?_
  rintro e w322 ⟨y,e9,rl,rf,rn,p1322,p2322,p3322,d1322,d2322,d3322,rfl,hdo,hrp,hm322⟩
  have mx322 := m321.back hm322 [(29,1),(30,2),(31,3)] (by decide); clear hm322 m321
  have m322 := mx322.oz [29,30,31,1,2,20,21,23,24,28]
  refine ⟨_,rfl,?_⟩; intro Y U
  refine ⟨fun h => (Bool.false_ne_true (h.symm.trans (by rfl))).elim,?_⟩
  refine goB hP273 [6,7,8] 3 1087 1535 U (.move rfl<|.extract rfl rfl<|.extract rfl rfl .nil) fun Y U =>?_
  refine se 9 ?_
  refine e_alloc U m322 32 fct14 rfl fun g327 Y w328 U m328 _ _ =>?_
  refine se 11 ?_
  refine stw U m328 32 fct13 fun w329 m329 _ =>?_
  refine se 12 ?_
  refine stw U m329 28 fct25 fun w330 m330 _ =>?_
  refine wpAnyE_done (by kernel_rfl) ?_ _
  have m331 := m330.closeC 24 rfl
  show K24 _ _
  exact hC24 _ _ ⟨y,_,_,_,_,_,_,_,_,_,_,_,_,_,_,_,hdo,hrp,U.only [0,4,7,8,11,12],m331.ren [(1,1),(2,2),(4,20),(8,24),(11,32),(12,28),(13,29),(14,30),(15,31)] (by decide)⟩
 refine e_alloc U m321 29 fct14 rfl fun g332 Y w333 U m333 _ _ =>?_
 refine ⟨fun _ => (m333.to ⟨il,il,il,il,il,il,il,il,il,il,trivial⟩),?_⟩
 refine se 5 ?_
 refine ecl U Tryz.func40 rfl (rDo_v _ x (⟨kd,vo,bl,sz,pe,place,to,at0,ix,items⟩ : Cm) n (hV _ (List.mem_of_getElem? hes)) hn (show items.length ≤ 1000000 by have := hc.il; omega) (fun e he => itok (hc.ib e he).2) _ _ _ _ _ _ _ _ _ _ _ _ _ _ _ _ _ (m333.into [(1,25),(2,26),(3,27),(4,22)] (by decide) rfl)) ?_
 rintro e w334 ⟨y,e9,rl,rf,rn,p1334,p2334,p3334,d1334,d2334,d3334,rfl,hdo,hrp,hm334⟩
 have mx334 := m333.back hm334 [(30,1),(31,2),(32,3)] (by decide); clear hm334 m333
 have m334 := mx334.oz [30,31,32,1,2,20,21,23,24,28,29]
 refine ⟨_,rfl,?_⟩; intro Y U
 refine goB hP273 [6,7,8] 3 1599 2047 U (.move rfl<|.extract rfl rfl<|.extract rfl rfl .nil) fun Y U =>?_
 refine se 11 ?_
 refine stw U m334 29 fct13 fun w339 m339 _ =>?_
 refine se 12 ?_
 refine stw U m339 28 fct25 fun w340 m340 _ =>?_
 refine wpAnyE_done (by kernel_rfl) ?_ _
 have m341 := m340.closeC 24 rfl
 show K24 _ _
 exact hC24 _ _ ⟨y,_,_,_,_,_,_,_,_,_,_,_,_,_,_,_,hdo,hrp,U.only [0,4,7,8,11,12],m341.ren [(1,1),(2,2),(4,20),(8,24),(11,29),(12,28),(13,30),(14,31),(15,32)] (by decide)⟩
end
end Go.Proofs.YtkehgingagggaaaGreat.K
