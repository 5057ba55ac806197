/- General laws of walks. -/
import Derived.Test.YtkehgingagggaaaGreatG18
import Derived.Test.YtkehgingagggaaaGreatG9
import Derived.Test.YtkehgingagggaaaGreatG15
section
namespace Go.Proofs.YtkehgingagggaaaGreat.K
open Go.ChangeShapes Go.WideShapes Go.ChangeAt Go.RowKit Go.Sort
set_option linter.unusedVariables false
set_option linter.unusedSimpArgs false
def idsL (L : List VolV) : List Int := (L.map (·.vo)).mergeSort fun x y => decide (x ≤ y)
theorem ids_len {L : List VolV} : (idsL L).length = (L.map (·.vo)).length := by simp [idsL]
theorem ids_mem {L : List VolV} {id : Int} (h : id ∈ idsL L) : ∃ y ∈ L,y.vo = id := by
 have := (List.mem_mergeSort).1 h
 obtain ⟨y,h1,h2⟩ := List.mem_map.1 this
 exact ⟨y,h1,h2⟩
def allL (L : List VolV) : List VolV := (idsL L).map (fun id => (L.find? (fun y => decide (y.vo = id))).getD volZ)
theorem all_len {L : List VolV} : (allL L).length = (idsL L).length := by simp [allL]
theorem all_at {L : List VolV} {k : Nat} {id : Int} (h : (idsL L)[k]? = some id) : ∃ (j : Nat) (y : VolV),L[j]? = some y ∧ y.vo = id ∧ (allL L)[k]? = some y := by
 obtain ⟨y,h1,h2⟩ := ids_mem (List.mem_of_getElem? h)
 cases hf : L.find? (fun y => decide (y.vo = id)) with
 | none => exact absurd h2 (by simpa using List.find?_eq_none.1 hf y h1)
 | some z =>
   obtain ⟨j,hj⟩ := List.getElem?_of_mem (List.mem_of_find?_eq_some hf)
   refine ⟨j,z,hj,by simpa using List.find?_some hf,?_⟩
   rw [allL,List.getElem?_map,h]
   show some ((L.find? _).getD volZ) = _
   rw [hf]; rfl
theorem all_snoc9 {L : List VolV} {k : Nat} {y : VolV} (h : (allL L)[k]? = some y) : ((allL L).take (k + 1)).map volD = ((allL L).take k).map volD ++ [volD y] := by
 rw [List.take_add_one,h,List.map_append]; rfl
theorem VolS.cp {n : Nat} {x : VolV} (h : VolS n x) (hn : n ≤ 800000) : x.place.length ≤ 1000000 ∧ x.pins.length ≤ 1000000 ∧ x.ws.length ≤ 1000000 ∧ WrsOk x.ws := by
 have h2 := h.sm
 obtain ⟨g1,g2,g3,g4,g5⟩ := h
 exact ⟨by omega,by omega,by omega,g1.its.1⟩
theorem app_all {α : Type} {l : List α} {x : α} {Q : α → Prop} (h : ∀ e ∈ l,Q e) (hx : Q x) : ∀ e ∈ l ++ [x],Q e := fun e he => by
 rcases List.mem_append.1 he with he | he
 · exact h e he
 simp at he; subst he; exact hx
theorem app_nodup {dn : List MapEntry} {e : MapEntry} (h : (dn.map (·.born)).Nodup) (hn : e.born ∉ dn.map (·.born)) : ((dn ++ [e]).map (·.born)).Nodup := by
 rw [List.map_append]
 refine List.nodup_append.2 ⟨h,by simp,fun a ha b hb =>?_⟩
 simp at hb; subst hb
 intro e9; subst e9; exact hn ha
theorem push_born {dn : List MapEntry} {e : MapEntry} : (dn.map (·.born)).toArray.push e.born = ((dn ++ [e]).map (·.born)).toArray := by simp
theorem ids_perm {dn es : List MapEntry} {ck : Nat} {zs : List Int} {L : List VolV} (h1 : ∀ e ∈ dn,e ∈ es) (h2 : (dn.map (·.born)).Nodup) (h3 : MapK es ck) (h4 : ∀ e ∈ es,e.born ∈ dn.map (·.born)) (h5 : dn.map (·.key) = zs.map (Value.int .i64)) (h6 : es.map (·.key) = L.map keyV) : zs.Perm (L.map (·.vo)) := by
 have hp := (perm_born h1 h2 h3.bn h4).map (·.key)
 rw [h5,h6] at hp
 have hq := hp.map (fun v => match v with | .int _ z => z | _ => 0)
 simpa [List.map_map,Function.comp_def,keyV] using hq
theorem sort_ids {zs : List Int} {L : List VolV} (h : zs.Perm (L.map (·.vo))) : zs.mergeSort (fun x y => decide (x ≤ y)) = idsL L :=
 pins_eq ((List.mergeSort_perm _ _).trans (h.trans (List.mergeSort_perm _ _).symm)) (sortP_sorted _) (sortP_sorted _)
open Classical in
noncomputable def mApp (L : List VolV) (c : Cm) : List VolV × Int × Int × Int × Int :=
 if c.kd = 1 then (if (∃ y ∈ L,y.vo = c.vo) then (L,29,0,0,0) else if NewOk c.vo c.bl c.sz c.pe c.to c.pl then (L ++ [newV c.vo c.bl c.sz c.pe c.to c.pl],0,0,0,0) else (L,23,0,0,0))
 else match L.findIdx? (fun y => decide (y.vo = c.vo)) with
   | none => (L,28,0,0,0)
   | some j => (L.set j (doV (L.getD j volZ) c).1,(doV (L.getD j volZ) c).2,(repV (doV (L.getD j volZ) c).1 (doV (L.getD j volZ) c).2).1,(repV (doV (L.getD j volZ) c).1 (doV (L.getD j volZ) c).2).2.1,(repV (doV (L.getD j volZ) c).1 (doV (L.getD j volZ) c).2).2.2)
theorem create_x (X : Cx) (B G : Nat) (L : List VolV) (x : Cm) (hR : CmdR x) (hk : x.kd = 1) (pp pi : Option Addr) (cp ni ci : Nat) (w0 : World) (m0 : MemOk X w0 [(1,.box B 87 [.map (some G)]),(2,.mp G 11 ((L).map keyV) ((L).map volD)),(3,.dat (.slice pp x.pl.length cp) (.ns .i64 x.pl)),(4,.dat (.slice pi ni ci) (.l 2 (x.its.map itD)))] w0) :
   Calls Tryz.prog 47 #[.pointer (some ⟨B,0,none⟩),.agg #[.int .i64 x.kd,.int .i64 x.vo,.int .i64 x.bl,.int .i64 x.sz,.int .i64 x.pe,.slice pp x.pl.length cp,.int .i64 x.to,.int .i64 x.at0,.int .i64 x.ix,.slice pi ni ci]] w0 fun e w' => ∃ (L' : List VolV) (e9 : Int),e = .returned (.int .i64 e9) ∧ mApp L x = (L',e9,0,0,0) ∧ MemOk X w0 [(1,.box B 87 [.map (some G)]),(2,.mp G 11 ((L').map keyV) ((L').map volD))] w' := by
 by_cases hex : ∃ y ∈ L,y.vo = x.vo
 · obtain ⟨y,hy,hv⟩ := hex
   obtain ⟨j,hj⟩ := List.getElem?_of_mem hy
   exact (create_ex X B G L x hR pp pi cp ni ci w0 j y hj hv m0).mono fun e w' h => ⟨L,29,h.1,by rw [mApp,if_pos hk,if_pos ⟨y,hy,hv⟩],h.2⟩
 have hno : ∀ y ∈ L,y.vo ≠ x.vo := fun y hy e => hex ⟨y,hy,e⟩
 by_cases hN : NewOk x.vo x.bl x.sz x.pe x.to x.pl
 · exact (create_ok X B G L x hR pp pi cp ni ci w0 hno hN m0).mono fun e w' h => ⟨_,0,h.1,by rw [mApp,if_pos hk,if_neg hex,if_pos hN],h.2⟩
 exact (create_bad X B G L x hR pp pi cp ni ci w0 hno hN m0).mono fun e w' h => ⟨_,23,h.1,by rw [mApp,if_pos hk,if_neg hex,if_neg hN],h.2⟩
set_option maxRecDepth 100000
set_option maxHeartbeats 4000000
theorem sortI_fr (X : Cx) (p : Option Addr) (c : Nat) (zs : List Int) (w0 : World) (hl : zs.length ≤ 1000000) (m0 : MemOk X w0 [(1,.seg (.slice p zs.length c) 3 1 (zs.map nD))] w0) :
   Calls Tryz.prog 98 #[.slice p zs.length c] w0 fun e w' => e = .returned (.tuple #[]) ∧ MemOk X w0 [(1,.seg (.slice p zs.length c) 3 1 ((zs.mergeSort fun x y => decide (x ≤ y)).map nD))] w' := by
 have hs := (seg_nums (m0.ok 1 _ rfl).1).2
 rcases hs with ⟨e1,h0⟩ | ⟨g,off,cap,cur,e1,-,hb,hnc,hcm,hcs,htk⟩
 · obtain rfl := List.length_eq_zero_iff.1 h0
   refine (AnyG.slices_Sort_int_none Tryz.sortI p c w0).mono ?_
   rintro e w' ⟨rfl,rfl⟩; exact ⟨rfl,by simpa using m0⟩
 injection e1 with h1 h2 h3; subst h1; subst h3
 refine (AnyG.slices_Sort_int Tryz.sortI g off c zs w0 (holds_at hb htk (by omega)) (Array.getElem?_eq_some_iff.1 hb).1 (by omega)).mono ?_
 rintro e w' ⟨rfl,n,os,rfl⟩
 exact ⟨rfl,(m0.putN 1 rfl (zs.mergeSort fun x y => decide (x ≤ y)) (by simp) n os).only [1]⟩
theorem ids_x (X : Cx) (B G : Nat) (L : List VolV) (w0 : World) (hL9 : L.length ≤ 1000) (m0 : MemOk X w0 [(1,.box B 87 [.map (some G)]),(2,.mp G 11 ((L).map keyV) ((L).map volD))] w0) :
   Calls Tryz.prog 51 #[.pointer (some ⟨B,0,none⟩)] w0 fun e w' => ∃ (p : Option Addr) (c : Nat),e = .returned (.slice p (idsL L).length c) ∧ MemOk X w0 [(1,.box B 87 [.map (some G)]),(2,.mp G 11 ((L).map keyV) ((L).map volD)),(3,.seg (.slice p (idsL L).length c) 3 1 ((idsL L).map nD))] w' := by
 refine ent1 Tryz.func51 rfl Tryz.ntmps51 fun Y U =>?_
 refine regS U (.assign rfl .nil) fun Y U =>?_
 refine regS U (.assign rfl .nil) fun Y U =>?_
 refine wsk fun K0 hK0 =>?_
 refine zsr fun K1 hK1 =>?_
 refine goCh U (.move rfl<|.nilCheck rfl<|.fa 0 rfl U87<|.lb m0 1 U85 rfl rfl rfl .nil) fun Y U =>?_
 obtain ⟨es11,ck11,hks11,hel11,hmk11,m11⟩ := m0.mpOpen (i := 2) rfl
 have hki11 := mpKeys hks11 keyI
 refine plz (e_range U m11 20 (i := 2) rfl rfl U85 rfl fun g12 Y w13 U m13 =>?_)
 refine znl (hK1 _ _ ?_)
 refine wp_block ?_
 refine wp_loop_ghost (fun g a w => ∃ (dn : List MapEntry) (zs : List Int) (p : Option Addr) (c gi : Nat),(∀ e ∈ dn,e ∈ es11) ∧ (dn.map (·.born)).Nodup ∧ dn.map (·.key) = zs.map (Value.int .i64) ∧ g = es11.length - dn.length ∧ Has 21 [(0,.pointer (some ⟨B,0,none⟩)),(3,.slice p zs.length c),(9,.pointer (some ⟨gi,0,none⟩))] a ∧ MemOk X w0 [(1,.box B 87 [.map (some G)]),(2,.mpE G 11 es11 ck11 (L.map volD)),(8,.obj gi (.mapIter (some G) ck11 (dn.map (·.born)).toArray ck11)),(7,.num (.slice p zs.length c) 3 .i64 zs)] w) (es11.length) ?_ ?_
 · have mz := m13.nilN 7 3 .i64
   exact ⟨[],[],_,_,_,(fun e he => by cases he),List.nodup_nil,rfl,rfl,U.only [0,3,9],mz.ren [(1,1),(2,2),(8,20),(7,7)] (by decide)⟩
 clear U m13
 rintro g Y w14 ⟨dn,zs,p,c,gi,hds,hnb,hdk,hg,U,m14⟩
 refine zsr fun K2 hK2 =>?_
 refine plz (e_nextU U m14 (i := 2) (i2 := 8) rfl rfl rfl rfl fun b15 tl15 o15 Y w15 U m15 hF15 =>?_)
 refine gz hK2 U (.extract rfl rfl .nil) fun Y U =>?_
 refine wsk fun K3 hK3 =>?_
 refine bc U 11 ?_ ?_
 ·
  intro hb17 U; try simp only [QQ,Qax] at hb17
  obtain ⟨e9,he9,hb9,ho9⟩ : ∃ e ∈ es11,e.born ∉ (dn.map (·.born)).toArray ∧ o15 = .mapIter (some G) ck11 ((dn.map (·.born)).toArray.push e.born) ck11 := by
    rcases hF15 with ⟨h1,_⟩ | ⟨_,e,h1,h2,h3⟩
    · rw [h1] at hb17; cases hb17
    exact ⟨e,h1,h2,h3⟩
  revert U
  subst ho9
  intro U
  obtain ⟨z9,hz9⟩ := hki11 e9 he9
  have hb8 : e9.born ∉ dn.map (·.born) := by simpa using hb9
  have hd2 : ∀ e ∈ dn ++ [e9],e ∈ es11 := app_all hds he9
  have hn2 : ((dn ++ [e9]).map (·.born)).Nodup := app_nodup hnb hb8
  refine wct U ?_
  refine zss (hK3 _ _ ?_)
  refine wp_block ?_
  refine regS U (.c rfl (fun _ h_ => y_entryK h_ m15 (i := 2) (i2 := 8) rfl rfl rfl he9 hz9)<|.extract rfl rfl<|.assign rfl .nil) fun Y U =>?_
  refine wp_region_lit ?_
  refine goCh U (.move rfl<|.move rfl .nil) fun Y U =>?_
  refine plz (e_litN U m15 100 (k := .i64) rfl rfl U35 fct16 rfl rfl rfl rfl fun g23 Y w24 U m24 =>?_)
  refine plz (e_appN U m24 7 rfl rfl rfl (m24.numsO (i := 100) rfl) U35 fct16 (by decide) (by have h8 := sub_len hds hnb; have h9 := congrArg List.length hdk; have h7 := hel11; rw [List.length_map] at h7; rw [List.length_map,List.length_map] at h9; try simp only [List.length_cons,List.length_nil]; omega) rfl fun p25 c25 Y w26 U m26 =>?_)
  refine goCh U (.assign rfl .nil) fun Y U =>?_
  refine wpList_nil ?_
  show ∃ n',n' < _ ∧ _
  rw [push_born] at m26
  exact ⟨es11.length - (dn.length + 1),by have := sub_len hd2 hn2; rw [List.length_append,List.length_singleton] at this; omega,dn ++ [e9],zs ++ [z9],_,_,_,hd2,hn2,by rw [List.map_append,List.map_append,hdk]; exact congrArg (_ ++ [·]) hz9,by rw [List.length_append,List.length_singleton],U.only [0,3,9],m26.only [1,2,8,7]⟩
 intro hb17 U; try simp only [QQ,Qax] at hb17
 have hall : ∀ e ∈ es11,e.born ∈ dn.map (·.born) := by
   rcases hF15 with ⟨_,h1⟩ | ⟨h1,_⟩
   · intro e he; simpa using h1 e he
   rw [h1] at hb17; cases hb17
 have hpm : zs.Perm (L.map (·.vo)) := ids_perm hds hnb hmk11 hall hdk hks11
 refine wcf U ?_
 refine wp_exit ?_
 refine hK0 _ _ ?_
 refine zsr fun K4 hK4 =>?_
 refine goCh U (.move rfl .nil) fun Y U =>?_
 have m30 := m15.numS 7 rfl
 refine plz (ecl U Tryz.func98 rfl (sortI_fr _ _ _ zs _ (by rw [hpm.length_eq,List.length_map]; omega) (m30.into [(1,7)] (by decide) rfl)) ?_)
 rintro e w31 ⟨rfl,hm31⟩
 have mx31 := m30.back hm31 [(7,1)] (by decide); clear hm31 m30
 have m31 := mx31.oz [7,1,2,8]
 refine ⟨_,rfl,?_⟩; intro Y U
 refine znl (hK4 _ _ ?_)
 refine regS U (.move rfl<|.assign rfl .nil) fun Y U =>?_
 refine rt1 U ?_
 have m35 := m31.mpClose (i := 2) rfl
 rw [hks11] at m35
 rw [sort_ids hpm] at m35
 rw [hpm.length_eq,← ids_len]
 rw [hpm.length_eq,← ids_len] at m35
 exact ⟨_,_,rfl,m35.ren [(1,1),(2,2),(3,7)] (by decide)⟩
theorem all_x (X : Cx) (B G : Nat) (L : List VolV) (w0 : World) (n : Nat) (hn : n ≤ 800000) (hV : ∀ y ∈ L,VolS n y) (hL9 : L.length ≤ 1000) (m0 : MemOk X w0 [(1,.box B 87 [.map (some G)]),(2,.mp G 11 ((L).map keyV) ((L).map volD))] w0) :
   Calls Tryz.prog 17 #[.pointer (some ⟨B,0,none⟩)] w0 fun e w' => ∃ (p : Option Addr) (c : Nat),e = .returned (.slice p ((allL L).map volD).length c) ∧ MemOk X w0 [(1,.box B 87 [.map (some G)]),(2,.mp G 11 ((L).map keyV) ((L).map volD)),(3,.dat (.slice p ((allL L).map volD).length c) (.l 11 ((allL L).map volD)))] w' := by
 refine ent1 Tryz.func17 rfl Tryz.ntmps17 fun Y U =>?_
 refine regS U (.assign rfl .nil) fun Y U =>?_
 refine regS U (.assign rfl .nil) fun Y U =>?_
 refine wsk fun K0 hK0 =>?_
 refine zsr fun K1 hK1 =>?_
 refine goCh U (.move rfl .nil) fun Y U =>?_
 refine plz (ecl U Tryz.func51 rfl (ids_x _ _ _ L _ hL9 (m0.into [(1,1),(2,2)] (by decide) rfl)) ?_)
 rintro e w5 ⟨p5,c5,rfl,hm5⟩
 have mx5 := m0.back hm5 [(1,1),(2,2),(9,3)] (by decide); clear hm5 m0
 have m5 := mx5.oz [1,2,9]
 refine ⟨_,rfl,?_⟩; intro Y U
 refine gz hK1 U (.len rfl U35<|.move rfl<|.nil) fun Y U =>?_
 refine wp_block ?_
 refine wp_loop_ghost (fun g a w => ∃ (k : Nat) (p q : Option Addr) (c d : Nat),k ≤ (idsL L).length ∧ g = (idsL L).length - k ∧ Has 25 [(0,.pointer (some ⟨B,0,none⟩)),(3,.slice p (((allL L).take k).map volD).length c),(7,.slice q (idsL L).length d),(8,.int .i64 (idsL L).length),(9,.int .i64 k)] a ∧ MemOk X w0 [(1,.box B 87 [.map (some G)]),(2,.mp G 11 ((L).map keyV) ((L).map volD)),(9,.seg (.slice q (idsL L).length d) 3 1 ((idsL L).map nD)),(8,.row (.slice p (((allL L).take k).map volD).length c) 51 11 (((allL L).take k).map volD))] w) ((idsL L).length) ?_ ?_
 · have mz := m5.nilR 8 51 11
   exact ⟨0,_,_,_,_,Nat.zero_le _,rfl,U.only [0,3,7,8,9],mz.ren [(1,1),(2,2),(9,9),(8,8)] (by decide)⟩
 clear U m5
 rintro g Y w9 ⟨k,p,q,c,d,hkl,hg,U,m9⟩
 refine regS U (.lss rfl rfl .nil) fun Y U =>?_
 refine wsk fun K2 hK2 =>?_
 refine bc U 10 ?_ ?_
 ·
  intro hb11 U; try simp only [QQ,Qax] at hb11
  have hk : k < (idsL L).length := by omega
  obtain ⟨id,hid⟩ : ∃ z,(idsL L)[k]? = some z := ⟨_,List.getElem?_eq_getElem hk⟩
  obtain ⟨j,y,hj,hy,hay⟩ := all_at hid
  have hys := (hV y (List.mem_of_getElem? hj)).cp hn
  have hll : (idsL L).length = L.length := by rw [ids_len,List.length_map]
  refine wct U ?_
  refine zss (hK2 _ _ ?_)
  refine wsk fun K3 hK3 =>?_
  refine wp_block ?_
  refine zsr fun K4 hK4 =>?_
  obtain ⟨gs13,os13,vs13,hp13,hl13,hR13,hsg13⟩ := m9.openS (i := 9) rfl (k) (r := [.v (.int .i64 id)]) (by rw [List.getElem?_map,hid]; rfl)
  revert U
  cases hp13
  rcases hR13 with _ | ⟨hd13_0,_ | _⟩
  obtain rfl := hd13_0.v_out
  clear hd13_0
  intro U
  refine gz hK4 U (.c rfl (fun _ h_ => y_idx h_ rfl rfl U35 fct17 (k) rfl (by omega))<|.loadAt1 hsg13 (q := 0) rfl rfl rfl U3 rfl<|.assign rfl<|.nil) fun Y U =>?_
  refine wp_region_lit ?_
  refine goCh U (.move rfl<|.move rfl<|.nilCheck rfl<|.fa 0 rfl U87<|.lb m9 1 U85 rfl rfl rfl<|.move rfl .nil) fun Y U =>?_
  obtain ⟨es23,ck23,hks23,hel23,hmk23,m23⟩ := m9.mpOpen (i := 2) rfl
  clear m9 hel23 hmk23
  have hki23 := mpKeys hks23 keyI
  obtain ⟨e23,vs23,he23,hev23,hR23,ho23,hvl23⟩ := m23.mpeAt (i := 2) rfl (r := [.v (.int .i64 y.vo),.v (.int .i64 y.bl),.v (.int .i64 y.sz),.v (.int .i64 y.pe),.ns .i64 y.place,.v (.int .i64 y.to),.v (.int .i64 y.ne),.v (.bool y.hi),.v (.int .i64 y.fl),.ns .i64 y.pins,.l 2 (y.ws.map wrD)]) (volD_get hj)
  have hek23 := mpKey hks23 he23 (keyV_get hj)
  clear ho23 hvl23
  revert U
  rcases hR23 with _ | ⟨hd23_0,_ | ⟨hd23_1,_ | ⟨hd23_2,_ | ⟨hd23_3,_ | ⟨hd23_4,_ | ⟨hd23_5,_ | ⟨hd23_6,_ | ⟨hd23_7,_ | ⟨hd23_8,_ | ⟨hd23_9,_ | ⟨hd23_10,_ | _⟩⟩⟩⟩⟩⟩⟩⟩⟩⟩⟩
  obtain rfl := hd23_0.v_out
  clear hd23_0
  obtain rfl := hd23_1.v_out
  clear hd23_1
  obtain rfl := hd23_2.v_out
  clear hd23_2
  obtain rfl := hd23_3.v_out
  clear hd23_3
  obtain ⟨p24,c24,hv24,hc24⟩ := hd23_4.ns_shape; subst hv24
  intro U
  have m24 := m23.dat 100 rfl (hd23_4.cast (fun _ h => h)); clear m23 hd23_4
  revert U
  obtain rfl := hd23_5.v_out
  clear hd23_5
  obtain rfl := hd23_6.v_out
  clear hd23_6
  obtain rfl := hd23_7.v_out
  clear hd23_7
  obtain rfl := hd23_8.v_out
  clear hd23_8
  obtain ⟨p25,c25,hv25,hc25⟩ := hd23_9.ns_shape; subst hv25
  intro U
  have m25 := m24.dat 101 rfl (hd23_9.cast (fun _ h => (free_add rfl h))); clear m24 hd23_9
  revert U
  obtain ⟨p26,c26,hv26,hc26⟩ := hd23_10.l_shape; subst hv26
  intro U
  have m26 := m25.dat 102 rfl (hd23_10.cast (fun _ h => (free_add rfl (free_add rfl h)))); clear m25 hd23_10
  refine goCh U (.c rfl (fun _ h_ => y_lookE1 h_ m26 (i := 2) rfl rfl rfl U85 (KeyT.int (q := .i64) U3) hki23 he23 (hek23.trans (keyV_eq hy)) hev23) .nil) fun Y U =>?_
  refine plz (ecl U Tryz.func52 rfl (volcopy_any y.vo y.bl y.sz y.pe y.to y.ne y.fl y.hi y.place y.pins y.ws _ _ _ _ _ _ _ _ ((m26.rd (i := 100) rfl).any) ((m26.rd (i := 101) rfl).any) ((m26.rd (i := 102) rfl).any) hys.1 hys.2.1 hys.2.2.1 hys.2.2.2) ?_)
  rintro e w28 ⟨pa28,ca28,pb28,cb28,pc28,cc28,rfl,ha28,hb28,hc28,hd28⟩
  have m29 := m26.callF3 103 104 105 rfl rfl rfl hd28 ha28 hb28 hc28
  clear ha28 hb28 hc28 hd28
  refine ⟨_,rfl,?_⟩; intro Y U
  refine plz (e_litR U m29 106 (mm := 11) rfl (.cons rfl rfl (.cons (.v _) (.cons (.v _) (.cons (.v _) (.cons (.v _) (.cons (m29.rd (i := 103) rfl) (.cons (.v _) (.cons (.v _) (.cons (.v _) (.cons (.v _) (.cons (m29.rd (i := 104) rfl) (.cons (m29.rd (i := 105) rfl) .nil))))))))))) .nil) U30 fct31 rfl rfl rfl rfl rfl fun g31 Y w32 U m32 =>?_)
  have m34 := m32.freezeR 106 rfl
  refine plz (e_appR U m34 8 rfl rfl rfl (m34.rd (i := 106) rfl) U30 fct31 rfl rfl (by decide) (by have h8 : ((allL L).take k).length ≤ k := List.length_take_le _ _; rw [List.length_map]; try simp only [List.length_cons,List.length_nil]; omega) rfl fun p33 c33 Y w35 U m35 =>?_)
  refine gz hK3 U (.assign rfl .nil) fun Y U =>?_
  replace U := U.oz [0,3,7,8,9]
  refine wp_region_lit ?_
  refine goCh U (.inc (k + 1)<|.move rfl .nil) fun Y U =>?_
  refine wpList_nil ?_
  show ∃ n',n' < _ ∧ _
  have m40 := m35.mpClose (i := 2) rfl
  rw [hks23] at m40
  have hE : ((allL L).take k).map volD ++ [[.v (.int .i64 y.vo),.v (.int .i64 y.bl),.v (.int .i64 y.sz),.v (.int .i64 y.pe),.ns .i64 y.place,.v (.int .i64 y.to),.v (.int .i64 y.ne),.v (.bool y.hi),.v (.int .i64 y.fl),.ns .i64 y.pins,.l 2 (y.ws.map wrD)]] = ((allL L).take (k + 1)).map volD := (all_snoc9 hay).symm
  rw [hE] at m40 U
  exact ⟨(idsL L).length - (k + 1),by omega,k + 1,_,_,_,_,by omega,rfl,U.only [0,3,7,8,9],m40.ren [(1,1),(2,2),(9,9),(8,8)] (by decide)⟩
 intro hb11 U; try simp only [QQ,Qax] at hb11
 revert U
 obtain rfl : k = (idsL L).length := by omega
 intro U
 refine wcf U ?_
 refine wp_exit ?_
 refine hK0 _ _ ?_
 refine regS U (.move rfl<|.assign rfl .nil) fun Y U =>?_
 refine rt1 U ?_
 have m43 := m9.freezeR 8 rfl
 rw [show (allL L).take (idsL L).length = allL L from List.take_of_length_le (by rw [all_len]; exact Nat.le_refl _)] at m43 ⊢
 exact ⟨_,_,rfl,m43.ren [(1,1),(2,2),(3,8)] (by decide)⟩
end Go.Proofs.YtkehgingagggaaaGreat.K
end
namespace Go.Proofs.YtkehgingagggaaaGreat.K
open Go.ChangeShapes Go.WideShapes Go.ChangeAt Go.RowKit
set_option linter.unusedVariables false
set_option linter.unusedSimpArgs false
section
section
variable {P : Program} {ops : Array Oper} {Q : Exit → Act → World → Prop} {md : Region.Mode} {listed : Array Bool} {fuel e : Nat} {S : World → Prop} {a : Act} {w : World}
structure Eff where
 op : Nat
 dst : Nat
 r : Nat
 N : Nat
 d : D
def Gd (b : Bool) (N : Nat) (d : D) (v : Value) (R : Res) : Prop := (b = true → ∃ (p : Option Addr) (c : Nat),v = .slice p N c ∧ R = .dat (.slice p N c) d) ∧ (b = false → R = .gone)
def JL (m : Nat) : (List (Nat × Value) → List (Nat × Res) → Prop) → List Eff → Prop
 | G,[] => G [] []
 | G,x :: l => ∃ v R,Gd (m.testBit x.op) x.N x.d v R ∧ JL m (fun T M => G ((x.dst,v) :: T) ((x.r,R) :: M)) l
theorem tb_self (m i : Nat) : (m ||| (1 <<< i)).testBit i = true := by simp [Nat.testBit_or,Nat.one_shiftLeft,Nat.testBit_two_pow_self]
theorem tb_ne (m : Nat) {i j : Nat} (h : i ≠ j) : (m ||| (1 <<< i)).testBit j = m.testBit j := by simp [Nat.testBit_or,Nat.one_shiftLeft,Nat.testBit_two_pow_of_ne h]
theorem Gd.keep {m i j N : Nat} {d : D} {v : Value} {R : Res} (g : Gd (m.testBit j) N d v R) (h : Nat.beq i j = false := by rfl) : Gd ((m ||| (1 <<< i)).testBit j) N d v R := by
 rw [tb_ne m (fun e => by subst e; simp at h)]; exact g
theorem Gd.new (m i : Nat) {N : Nat} {d : D} {p : Option Addr} {c : Nat} : Gd ((m ||| (1 <<< i)).testBit i) N d (.slice p N c) (.dat (.slice p N c) d) := by
 rw [tb_self]; exact ⟨fun _ => ⟨p,c,rfl,rfl⟩,(fun h => by cases h)⟩
theorem Gd.none {N : Nat} {d : D} {v : Value} {b : Bool} (h : b = false := by rfl) : Gd b N d v .gone := by subst h; exact ⟨(fun h => by cases h),fun _ => rfl⟩
theorem tb_bits : ∀ (E : List Nat) (m j : Nat),(bitsM m E).testBit j = (m.testBit j || E.contains j)
 | [],m,j => by simp [bitsM]
 | i :: E,m,j => by
   rw [bitsM,tb_bits E]
   by_cases h : i = j
   · subst h; rw [tb_self]; simp
   rw [tb_ne m h]
   have : ((i :: E).contains j) = E.contains j := by rw [List.contains_cons]; simp [Ne.symm h]
   rw [this]
def anyB (md : Region.Mode) (ops : Array Oper) (E : List Nat) (m0 m1 : Nat) : Bool :=
 (m1 == bitsM m0 E) && (E.all fun i => !(m0.testBit i) && Nat.blt i ops.size && match ops[i]? with
   | none => false
   | some o => o.after.all fun ed => !Region.binds md ed || (Nat.blt ed.on i && m1.testBit ed.on)) &&
 (List.range ops.size).all fun k => m1.testBit k || (E.all fun i => waits md ops k i)
theorem any_inv {J : Nat → Act → World → Prop} (E : List Nat) (m0 m1 k : Nat) (hE : anyB md ops E m0 m1 = true) (hc : closedB md ops (lst ops.size m0) = true) (hnd : E.Nodup)
   (hJ : J m0 a w) (hS : ∀ m a w,J m a w → S w)
   (hstep : ∀ i ∈ E,∀ (m : Nat) (a : Act) (w : World) (oi : Oper),ops[i]? = some oi → m.testBit i = false → (∀ j,(oi.after.any fun ed => Region.binds md ed && ed.on == j) = true → m.testBit j = true) → J m a w → Region.wanted oi (Go.yielded ops a.tmps) = true ∧ ∀ K' : Act → World → Prop,(∀ a' w',J (m ||| (1 <<< i)) a' w' → K' a' w') → Oper.wp P oi a w K' Q)
   (hend : ∀ a w,J m1 a w → wpAnyE P md ops Q e S k (lst ops.size m1) a w)
   (hl : listed = lst ops.size m0 := by kernel_rfl) (hf : fuel = E.length + k := by rfl) : wpAnyE P md ops Q e S fuel listed a w := by
 subst hl; subst hf
 simp only [anyB,Bool.and_eq_true,beq_iff_eq,List.all_eq_true,List.mem_range] at hE
 obtain ⟨⟨hm1,hEi⟩,hrest⟩ := hE
 have key : ∀ (n m : Nat) (a : Act) (w : World),(E.filter fun i => !(m.testBit i)).length = n → Closed md ops (lst ops.size m) → (∀ j,j ∉ E → m.testBit j = m1.testBit j) → J m a w → wpAnyE P md ops Q e S (n + k) (lst ops.size m) a w := by
   intro n
   induction n with
   | zero =>
     intro m a w hn _ hag hj
     have hall : ∀ i ∈ E,m.testBit i = true := fun i hi => by
       cases h : m.testBit i with
       | true => rfl
       | false =>
         have : i ∈ E.filter fun i => !(m.testBit i) := List.mem_filter.2 ⟨hi,by simp [h]⟩
         rw [List.length_eq_zero_iff.1 hn] at this; cases this
     have hmm : m = m1 := by
       apply Nat.eq_of_testBit_eq
       intro j
       by_cases hjE : j ∈ E
       · rw [hall j hjE,hm1,tb_bits]; simp [hjE]
       exact hag j hjE
     subst hmm
     rw [Nat.zero_add]; exact hend a w hj
   | succ n ih =>
     intro m a w hn hcl hag hj
     have hsome : ∃ i ∈ E,m.testBit i = false := by
       rcases hq : E.filter fun i => !(m.testBit i) with _ | ⟨i,l⟩
       · rw [hq] at hn; cases hn
       have : i ∈ E.filter fun i => !(m.testBit i) := by rw [hq]; exact List.mem_cons_self
       obtain ⟨h1,h2⟩ := List.mem_filter.1 this
       exact ⟨i,h1,by simpa using h2⟩
     -- the least of those that are left is ready
     have hready : ∃ i,i ∈ Region.ready md ops (lst ops.size m) := by
       have hmin : ∀ (b i : Nat),i ≤ b → i ∈ E → m.testBit i = false → ∃ i,i ∈ E ∧ m.testBit i = false ∧ ∀ j,j < i → j ∈ E → m.testBit j = true := by
         intro b
         induction b with
         | zero => exact fun i hi h1 h2 => ⟨i,h1,h2,fun j hj => by omega⟩
         | succ b ihb =>
           intro i hi h1 h2
           by_cases hex : ∃ j,j < i ∧ j ∈ E ∧ m.testBit j = false
           · obtain ⟨j,hj,h3,h4⟩ := hex; exact ihb j (by omega) h3 h4
           exact ⟨i,h1,h2,fun j hj h3 => by
             cases h4 : m.testBit j with
             | true => rfl
             | false => exact absurd ⟨j,hj,h3,h4⟩ hex⟩
       obtain ⟨i0,h1,h2⟩ := hsome
       obtain ⟨i,hiE,him,hlt⟩ := hmin i0 i0 (Nat.le_refl _) h1 h2
       obtain ⟨⟨_,his⟩,hma⟩ := hEi i hiE
       rw [Nat.blt_eq] at his
       rw [Array.getElem?_eq_getElem his] at hma
       refine ⟨i,rd_ready (Array.getElem?_eq_getElem his) him (fun ed hed hb =>?_)⟩
       have h9 := (Array.all_eq_true_iff_forall_mem.1 hma) ed hed
       rw [hb] at h9
       simp only [Bool.not_true,Bool.false_or,Bool.and_eq_true,Nat.blt_eq] at h9
       refine ⟨?_,by omega⟩
       by_cases hin : ed.on ∈ E
       · exact hlt _ h9.1 hin
       rw [hag _ hin]; exact h9.2
     rw [show n + 1 + k = (n + k) + 1 from by omega]
     refine ⟨(fun h0 => by obtain ⟨i,hi⟩ := hready; rw [h0] at hi; cases hi),fun i hi =>?_⟩
     obtain ⟨hun,oi,hoi,hal⟩ := mem_ready.1 hi
     have his : i < ops.size := (Array.getElem?_eq_some_iff.1 hoi).1
     have him : m.testBit i = false := by rw [lst_getD,if_pos his] at hun; exact hun
     have hiE : i ∈ E := by
       by_cases h : i ∈ E
       · exact h
       exfalso
       obtain ⟨j,hjE,hjm⟩ := hsome
       have h1 := hrest i his
       rw [← hag i h,him] at h1
       have h2 : waits md ops i j = true := by
         rcases Bool.or_eq_true_iff.1 h1 with h2 | h2
         · cases h2
         exact List.all_eq_true.1 h2 j hjE
       have h3 := waits_listed (hcl.set hi) h2 (by rw [lst_set,lst_getD,if_pos his,tb_self])
       have hjs : j < ops.size := by have := (hEi j hjE).1.2; rwa [Nat.blt_eq] at this
       rw [lst_set,lst_getD,if_pos hjs,tb_ne m (fun (hq : i = j) => h (by rw [hq]; exact hjE))] at h3
       rw [hjm] at h3; cases h3
     have hdep : ∀ j,(oi.after.any fun ed => Region.binds md ed && ed.on == j) = true → m.testBit j = true := fun j hj => by
       obtain ⟨ed,hed,hb⟩ := Array.any_eq_true'.1 hj
       simp only [Bool.and_eq_true,beq_iff_eq] at hb
       have h1 := hal ed hed hb.1
       rw [hb.2] at h1
       by_cases hjs : j < ops.size
       · rw [lst_getD,if_pos hjs] at h1; exact h1
       rw [lst_getD,if_neg hjs] at h1; cases h1
     obtain ⟨hw,hwp⟩ := hstep i hiE m a w oi hoi him hdep hj
     refine wpOp_step hoi (fun K' hK =>?_)
     rw [if_pos hw]
     refine hwp K' (fun a' w' hj' => hK a' w' ⟨fun _ => hS _ _ _ hj',?_⟩)
     rw [lst_set]
     refine ih _ a' w' ?_ ?_ ?_ hj'
     · have hf : (E.filter fun j => !((m ||| (1 <<< i)).testBit j)) = (E.filter fun j => !(m.testBit j)).erase i := by
         rw [List.Nodup.erase_eq_filter (List.Pairwise.filter _ hnd),List.filter_filter]
         refine List.filter_congr (fun j hj =>?_)
         by_cases hij : i = j
         · subst hij; rw [tb_self]; simp
         rw [tb_ne m hij]; simp [Ne.symm hij]
       rw [hf,List.length_erase_of_mem (List.mem_filter.2 ⟨hiE,by simp [him]⟩),hn]; rfl
     · rw [← lst_set]; exact hcl.set hi
     intro j hj
     rw [tb_ne m (fun (hq : i = j) => hj (by rw [← hq]; exact hiE))]; exact hag j hj
 refine key E.length m0 a w ?_ (closedB_spec hc) ?_ hJ
 · rw [List.filter_eq_self.2]
   intro i hi
   exact (hEi i hi).1.1
 intro j hj
 rw [hm1,tb_bits]; simp [hj]
theorem any_eff {n : Nat} {T : List (Nat × Value)} {X : Cx} {w0 : World} {M : Mm} (effs : List Eff) (E : List Nat) (m0 m1 k : Nat) (ha : Has n T a) (hm : MemOk X w0 M w)
   (hE : anyB md ops E m0 m1 = true) (hc : closedB md ops (lst ops.size m0) = true) (hnd : E.Nodup)
   (hJ : JL m0 (fun T' M' => Has n (T' ++ T) a ∧ MemOk X w0 (M' ++ M) w) effs)
   (hS : ∀ m a w,JL m (fun T' M' => Has n (T' ++ T) a ∧ MemOk X w0 (M' ++ M) w) effs → S w)
   (hstep : ∀ i ∈ E,∀ (m : Nat) (a : Act) (w : World) (oi : Oper),ops[i]? = some oi → m.testBit i = false → (∀ j,(oi.after.any fun ed => Region.binds md ed && ed.on == j) = true → m.testBit j = true) → JL m (fun T' M' => Has n (T' ++ T) a ∧ MemOk X w0 (M' ++ M) w) effs → Region.wanted oi (Go.yielded ops a.tmps) = true ∧ ∀ K' : Act → World → Prop,(∀ a' w',JL (m ||| (1 <<< i)) (fun T' M' => Has n (T' ++ T) a' ∧ MemOk X w0 (M' ++ M) w') effs → K' a' w') → Oper.wp P oi a w K' Q)
   (hend : ∀ a w,JL m1 (fun T' M' => Has n (T' ++ T) a ∧ MemOk X w0 (M' ++ M) w) effs → wpAnyE P md ops Q e S k (lst ops.size m1) a w)
   (hl : listed = lst ops.size m0 := by kernel_rfl) (hf : fuel = E.length + k := by rfl) : wpAnyE P md ops Q e S fuel listed a w :=
 any_inv (J := fun m a w => JL m (fun T' M' => Has n (T' ++ T) a ∧ MemOk X w0 (M' ++ M) w) effs) E m0 m1 k hE hc hnd hJ hS hstep hend hl hf
theorem JL.c {m : Nat} {G : List (Nat × Value) → List (Nat × Res) → Prop} {x : Eff} {l : List Eff} (v : Value) (R : Res) (g : Gd (m.testBit x.op) x.N x.d v R) (h : JL m (fun T M => G ((x.dst,v) :: T) ((x.r,R) :: M)) l) : JL m G (x :: l) := ⟨v,R,g,h⟩
theorem JL.z {m : Nat} {G : List (Nat × Value) → List (Nat × Res) → Prop} (h : G [] []) : JL m G [] := h
theorem JL.out {m : Nat} {G : List (Nat × Value) → List (Nat × Res) → Prop} {x : Eff} {l : List Eff} (h : JL m G (x :: l)) : ∃ v R,Gd (m.testBit x.op) x.N x.d v R ∧ JL m (fun T M => G ((x.dst,v) :: T) ((x.r,R) :: M)) l := h
theorem Gd.yes {b : Bool} {N : Nat} {d : D} {v : Value} {R : Res} (g : Gd b N d v R) (h : b = true) : ∃ (p : Option Addr) (c : Nat),v = .slice p N c ∧ R = .dat (.slice p N c) d := g.1 h
theorem Has.own {n : Nat} {T : List (Nat × Value)} (h : Has n T a) (d : Nat) : Has n ((d,a.tmps.getD d undef) :: T) a := ⟨h.d,h.sz,fun t v hv => by
 rw [lk_cons] at hv
 split at hv
 · rename_i hq
   subst hq; cases hv; rfl
 exact h.h t v hv⟩
theorem MemOk.putGone {X : Cx} {w0 : World} {M : Mm} (m : MemOk X w0 M w) (i : Nat) : MemOk X w0 ((i,.gone) :: M) w :=
 m.upd i .gone (Keep.refl _ _) (fun b hb => by cases hb) (fun _ _ => trivial)
end
end
section
def hidI (b : Bool) : Int := if b then 1 else 0
theorem hidI_bd (b : Bool) : 0 ≤ hidI b ∧ hidI b ≤ 1 := by cases b <;> decide
structure VP (x : VolV) : Prop where
 h4 : (0 ≤ x.vo ∧ x.vo ≤ 7) ∧ (0 ≤ x.bl ∧ x.bl ≤ 256) ∧ (0 ≤ x.sz ∧ x.sz ≤ 32) ∧ (0 ≤ x.pe ∧ x.pe ≤ 256)
 pl : x.place.length ≤ 256 ∧ ∀ z ∈ x.place,0 ≤ z ∧ z ≤ 7
 h3 : (0 ≤ x.to ∧ x.to ≤ 1099511627776) ∧ (0 ≤ x.ne ∧ x.ne ≤ 1099511627776) ∧ (0 ≤ x.fl ∧ x.fl ≤ 1099511627776)
 pn : x.pins.length ≤ 60000 ∧ ∀ z ∈ x.pins,0 ≤ z ∧ z ≤ 1099511627776
 ws : x.ws.length ≤ 60000
 it : ∀ e ∈ x.ws,e.2.length ≤ 8 ∧ ∀ y ∈ e.2,(0 ≤ y.1 ∧ y.1 ≤ 255) ∧ y.2.length ≤ 32
def wE (w : PWr) : List Int := enc (w.2.length : Int) ++ itemsE w.2
def wsE (ws : List PWr) : List Int := ws.flatMap wE
def headL (x : VolV) : List (List Int) := [encs [x.vo,x.bl,x.sz,x.pe],encs [(x.place.length : Int)] ++ encs x.place,encs [x.to,x.ne,hidI x.hi,x.fl],encs [(x.pins.length : Int)] ++ encs x.pins,encs [(x.ws.length : Int)]]
def headE (x : VolV) : List Int := (headL x).flatten
def volE (x : VolV) : List Int := headE x ++ wsE x.ws
def snapE (L : List VolV) : List Int := encs [(L.length : Int)] ++ L.flatMap volE
theorem head_flat (x : VolV) : (headL x).flatten = headE x := rfl
theorem head_len {x : VolV} (h : VP x) : (headE x).length ≤ 700000 := by
 have h1 := encs_len [x.vo,x.bl,x.sz,x.pe]; have h2 := encs_len [(x.place.length : Int)]; have h3 := encs_len x.place; have h4 := encs_len [x.to,x.ne,hidI x.hi,x.fl]; have h5 := encs_len [(x.pins.length : Int)]; have h6 := encs_len x.pins; have h7 := encs_len [(x.ws.length : Int)]
 have h8 := h.pl.1; have h9 := h.pn.1
 simp only [headE,headL,List.flatten_cons,List.flatten_nil,List.length_append,List.length_cons,List.length_nil] at *
 omega
theorem head_sum {x : VolV} (h : VP x) : sumLen (headL x) ≤ 1000000 := by have := head_len h; unfold headE at this; unfold sumLen; omega
theorem wsE_snoc {ws : List PWr} {A : List Int} {k : Nat} {xs : Int} {xl : List (Int × List Int)} (h : ws[k]? = some (xs,xl)) : A ++ wsE (ws.take k) ++ (enc (xl.length : Int) ++ itemsE xl) = A ++ wsE (ws.take (k + 1)) := by
 rw [List.take_add_one,h,List.append_assoc]; simp [wsE,wE]
theorem itE_le8 {xl : List (Int × List Int)} (h : xl.length ≤ 8 ∧ ∀ y ∈ xl,(0 ≤ y.1 ∧ y.1 ≤ 255) ∧ y.2.length ≤ 32) : (enc (xl.length : Int) ++ itemsE xl).length ≤ 490 := by
 have h1 := itemsE_le xl h.2; have h2 := (enc_len (xl.length : Int)).1; have := h.1
 rw [List.length_append]; omega
theorem wsL_len : ∀ {ws : List PWr},(∀ e ∈ ws,e.2.length ≤ 8 ∧ ∀ y ∈ e.2,(0 ≤ y.1 ∧ y.1 ≤ 255) ∧ y.2.length ≤ 32) → (wsE ws).length ≤ 490 * ws.length
 | [],_ => by simp [wsE]
 | e :: l,h => by
   have h1 := wsL_len (ws := l) (fun x hx => h x (List.mem_cons_of_mem _ hx)); have h2 := itE_le8 (h e List.mem_cons_self)
   rw [show wsE (e :: l) = wE e ++ wsE l from List.flatMap_cons,List.length_append,List.length_cons]
   rw [show wE e = enc (e.2.length : Int) ++ itemsE e.2 from rfl]; omega
theorem wsE_len {x : VolV} (h : VP x) (k : Nat) : (wsE (x.ws.take k)).length ≤ 29400000 := by
 have h1 := wsL_len (ws := x.ws.take k) (fun e he => h.it e (List.mem_of_mem_take he)); have h2 := h.ws
 have h3 : (x.ws.take k).length ≤ x.ws.length := by rw [List.length_take]; omega
 omega
theorem volE_len {x : VolV} (h : VP x) : (volE x).length ≤ 30100000 := by
 have h1 := head_len h; have h2 := wsL_len h.it; have h3 := h.ws
 rw [volE,List.length_append]; omega
theorem volsE_len : ∀ {l : List VolV},(∀ x ∈ l,VP x) → (l.flatMap volE).length ≤ 30100000 * l.length
 | [],_ => by simp
 | e :: l,h => by
   have h1 := volsE_len (l := l) (fun x hx => h x (List.mem_cons_of_mem _ hx)); have h2 := volE_len (h e List.mem_cons_self)
   rw [List.flatMap_cons,List.length_append,List.length_cons]; omega
theorem allL_mem {L : List VolV} {Q : VolV → Prop} (h : ∀ y ∈ L,Q y) {z : VolV} (hz : z ∈ allL L) : Q z := by
 obtain ⟨k,hk⟩ := List.getElem?_of_mem hz
 have hk9 := (List.getElem?_eq_some_iff.1 hk).1
 rw [all_len] at hk9
 obtain ⟨j,y,h1,h2,h3⟩ := all_at (List.getElem?_eq_getElem hk9)
 rw [hk] at h3; cases h3
 exact h _ (List.mem_of_getElem? h1)
theorem snap_snoc {A : List VolV} {B : List Int} {k : Nat} {y : VolV} (h : A[k]? = some y) : B ++ ((A.take k).flatMap volE ++ volE y) = B ++ (A.take (k + 1)).flatMap volE := by
 rw [List.take_add_one,h]; simp
theorem nnOf {A : List PWr} {S : Nat → Prop} {w : World} {p : Option Addr} {nn c : Nat} (h : Rd S w (.slice p nn c) (.l 2 (A.map wrD))) : nn = A.length := by obtain ⟨pq,cq,hv,_⟩ := h.l_shape; injection hv with _ e2 _; rw [List.length_map] at e2; exact e2
set_option maxRecDepth 100000
set_option maxHeartbeats 4000000
theorem counted64_x (l : List Int) (p : Option Addr) (c : Nat) (w0 : World) (h0 : Rd (fun _ => True) w0 (.slice p l.length c) (.ns .i64 l)) (hl : l.length ≤ 60000) (hb63 : ∀ z ∈ l,0 ≤ z ∧ z ≤ 9223372036854775807) :
   Calls Tryz.prog 105 #[.slice p l.length c] w0 fun e w' => ∃ (p : Option Addr) (c : Nat),e = .returned (.slice p (encs [(l.length : Int)] ++ encs l).length c) ∧ w'.ownsRow w0.heap.size 5 1 (.slice p (encs [(l.length : Int)] ++ encs l).length c) (encs [(l.length : Int)] ++ encs l).length ((encs [(l.length : Int)] ++ encs l).map (Value.int .u8)) ∧ Below w0.heap.size w0 w' := by
 refine ent1 Tryz.func105 rfl Tryz.ntmps105 fun Y U =>?_
 have m0 := MemOk.start (fun _ => False) w0
 refine regS U (.assign rfl .nil) fun Y U =>?_
 refine zsr fun K0 hK0 =>?_
 refine goCh U (.move rfl<|.len rfl U48 .nil) fun Y U =>?_
 refine plz (e_litN U m0 20 (k := .i64) rfl rfl U35 fct16 rfl rfl rfl rfl fun g6 Y w7 U m7 =>?_)
 have m8 := m7.freezeN 20 rfl
 refine plz (ecn U Tryz.func57 rfl m8 21 (pnums_x [(l.length : Int)] _ _ _ ((m8.rd (i := 20) rfl).any) (by simp) (l63 (fun z hz => by simp at hz; subst hz; omega))) fun p9 c9 Y w9 U m10 =>?_)
 refine goCh U (.move rfl .nil) fun Y U =>?_
 refine plz (ecn U Tryz.func138 rfl m10 22 (pnuml_x l _ _ _ ((h0.now' m10 rfl).any) (by omega) (l63 hb63)) fun p13 c13 Y w13 U m14 =>?_)
 have m17 := m14.freezeN 21 rfl
 have m18 := m17.freezeN 22 rfl
 refine plz (e_litR U m18 23 (mm := 1) rfl (.cons rfl rfl (.cons (m18.rd (i := 21) rfl) .nil)<|.cons rfl rfl (.cons (m18.rd (i := 22) rfl) .nil) .nil) U23 fct19 rfl rfl rfl rfl rfl fun g16 Y w19 U m19 =>?_)
 have m20 := m19.freezeR 23 rfl
 refine plz (ecn U Tryz.func68 rfl m20 24 (pjoin_is (ls := [encs [(l.length : Int)],encs l]) (S := encs [(l.length : Int)] ++ encs l) ((m20.rd (i := 23) rfl).any) (by simp) (by simp only [sumLen,List.flatten_cons,List.flatten_nil,List.length_append,List.length_nil]; have := encs_len [(l.length : Int)]; have := encs_len l; simp only [List.length_singleton] at *; omega) (by simp [itemE,encs])) fun p21 c21 Y w21 U m22 =>?_)
 refine gz hK0 U (.assign rfl .nil) fun Y U =>?_
 refine rt1 U ?_
 exact ⟨_,_,rfl,m22.ok 24 _ rfl,m22.below⟩
theorem put_x (x : VolV) (hP : VP x) (pp pn pw : Option Addr) (cp cn9 nw cw : Nat) (w0 : World) (h0 : Rd (fun _ => True) w0 (.slice pp x.place.length cp) (.ns .i64 x.place)) (h1 : Rd (fun _ => True) w0 (.slice pn x.pins.length cn9) (.ns .i64 x.pins)) (h2 : Rd (fun _ => True) w0 (.slice pw nw cw) (.l 2 (x.ws.map wrD))) :
   Calls Tryz.prog 58 #[.agg #[.int .i64 x.vo,.int .i64 x.bl,.int .i64 x.sz,.int .i64 x.pe,.slice pp x.place.length cp,.int .i64 x.to,.int .i64 x.ne,.bool x.hi,.int .i64 x.fl,.slice pn x.pins.length cn9,.slice pw nw cw]] w0 fun e w' => ∃ (p : Option Addr) (c : Nat),e = .returned (.slice p (volE x).length c) ∧ w'.ownsRow w0.heap.size 5 1 (.slice p (volE x).length c) (volE x).length ((volE x).map (Value.int .u8)) ∧ Below w0.heap.size w0 w' := by
 refine ent1 Tryz.func58 rfl Tryz.ntmps58 fun Y U =>?_
 revert U
 obtain rfl : nw = x.ws.length := nnOf h2
 intro U
 have m0 := MemOk.start (fun _ => False) w0
 refine zsr fun K0 hK0 =>?_
 refine plz (e_box U m0 20 (cs := [_,_,_,_,_,_,_,_,_,_,_]) rfl rfl rfl fun g1 Y w2 U m2 _ _ =>?_)
 refine gz hK0 U (.assign rfl .nil) fun Y U =>?_
 refine regS U (.assign rfl .nil) fun Y U =>?_
 refine wsk fun K1 hK1 =>?_
 have hC1 : ∀ (a : Act) (w : World),(∃ B1,Has 55 [(1,.pointer (some ⟨B1,0,none⟩)),(3,.int .i64 (hidI x.hi))] a ∧ MemOk (cn w0) w0 [(7,.box B1 51 [.int .i64 x.vo,.int .i64 x.bl,.int .i64 x.sz,.int .i64 x.pe,.slice pp x.place.length cp,.int .i64 x.to,.int .i64 x.ne,.bool x.hi,.int .i64 x.fl,.slice pn x.pins.length cn9,.slice pw x.ws.length cw])] w) → K1 a w := by
   clear U m2
   rintro Y w5 ⟨B1,U,m5⟩
   refine hK1 _ _ ?_
   refine wsk fun K2 hK2 =>?_
   have m6 := m5.oz [7]
   refine region_p 33 (B := [(7,_)]) (m6.to ⟨il,trivial⟩) m6 (by kernel_rfl) (fun w7 hP7 m7 =>?_); clear m6
   refine goR hP7 [0,1,2,3,4,5,6,7,10,11,13,14,15,16,17,18,19,22,23,25,26,27] [1,3,5,7,11,14,16,19,23,26] 22 0 248507647 U (m7.to ⟨il,trivial⟩) (.fa 0 rfl U51<|.lb hh 7 U3 rfl rfl rfl<|.fa 1 rfl U51<|.lb hh 7 U3 rfl rfl rfl<|.fa 2 rfl U51<|.lb hh 7 U3 rfl rfl rfl<|.fa 3 rfl U51<|.lb hh 7 U3 rfl rfl rfl<|.fa 4 rfl U51<|.lb hh 7 U35 rfl rfl rfl<|.fa 5 rfl U51<|.lb hh 7 U3 rfl rfl rfl<|.fa 6 rfl U51<|.lb hh 7 U3 rfl rfl rfl<|.move rfl<|.fa 8 rfl U51<|.lb hh 7 U2 rfl rfl rfl<|.fa 9 rfl U51<|.lb hh 7 U48 rfl rfl rfl<|.fa 10 rfl U51<|.lb hh 7 U49 rfl rfl rfl<|.len rfl U49 .nil) fun Y U =>?_
   have Hzq : Has _ [(1,_),(3,_),(9,_),(10,_),(11,_),(12,_),(13,_),(14,_),(15,_),(16,_),(19,_),(20,_),(22,_),(23,_),(24,_),(25,_),(26,_),(27,_),(28,_),(31,_),(32,_),(34,_),(35,_),(36,_)] _ := U.only [1,3,9,10,11,12,13,14,15,16,19,20,22,23,24,25,26,27,28,31,32,34,35,36]
   have m30 : MemOk _ _ [(7,_)] _ := m7.only [7]
   clear U m7
   refine any_eff [⟨8,17,100,4,.ns .i64 [x.vo,x.bl,x.sz,x.pe]⟩,⟨9,18,101,(encs [x.vo,x.bl,x.sz,x.pe]).length,.ns .u8 (encs [x.vo,x.bl,x.sz,x.pe])⟩,⟨12,21,102,(encs [(x.place.length : Int)] ++ encs x.place).length,.ns .u8 (encs [(x.place.length : Int)] ++ encs x.place)⟩,⟨20,29,103,4,.ns .i64 [x.to,x.ne,hidI x.hi,x.fl]⟩,⟨21,30,104,(encs [x.to,x.ne,hidI x.hi,x.fl]).length,.ns .u8 (encs [x.to,x.ne,hidI x.hi,x.fl])⟩,⟨24,33,105,(encs [(x.pins.length : Int)] ++ encs x.pins).length,.ns .u8 (encs [(x.pins.length : Int)] ++ encs x.pins)⟩,⟨28,37,106,1,.ns .i64 [(x.ws.length : Int)]⟩,⟨29,38,107,(encs [(x.ws.length : Int)]).length,.ns .u8 (encs [(x.ws.length : Int)])⟩] [8,9,12,20,21,24,28,29] 248507647 1073741823 3 Hzq m30 (by kernel_rfl) (by kernel_rfl) (by decide) (JL.c _ _ (Gd.none (show Nat.testBit 248507647 8 = false by kernel_rfl)) (JL.c _ _ (Gd.none (show Nat.testBit 248507647 9 = false by kernel_rfl)) (JL.c _ _ (Gd.none (show Nat.testBit 248507647 12 = false by kernel_rfl)) (JL.c _ _ (Gd.none (show Nat.testBit 248507647 20 = false by kernel_rfl)) (JL.c _ _ (Gd.none (show Nat.testBit 248507647 21 = false by kernel_rfl)) (JL.c _ _ (Gd.none (show Nat.testBit 248507647 24 = false by kernel_rfl)) (JL.c _ _ (Gd.none (show Nat.testBit 248507647 28 = false by kernel_rfl)) (JL.c _ _ (Gd.none (show Nat.testBit 248507647 29 = false by kernel_rfl)) (JL.z ⟨((((((((Hzq.own 38).own 37).own 33).own 30).own 29).own 21).own 18).own 17),((((((((m30.putGone 107).putGone 106).putGone 105).putGone 104).putGone 103).putGone 102).putGone 101).putGone 100)⟩))))))))) (fun _ _ _ h9 => by obtain ⟨_,_,_,_,_,_,_,_,_,_,_,_,_,_,_,_,_,_,_,_,_,_,_,_,_,Hm9⟩ := h9; exact Hm9.to ⟨il,trivial⟩) (List.forall_mem_cons.2 ⟨?_,(List.forall_mem_cons.2 ⟨?_,(List.forall_mem_cons.2 ⟨?_,(List.forall_mem_cons.2 ⟨?_,(List.forall_mem_cons.2 ⟨?_,(List.forall_mem_cons.2 ⟨?_,(List.forall_mem_cons.2 ⟨?_,(List.forall_mem_cons.2 ⟨?_,(fun _ h9 => by cases h9)⟩)⟩)⟩)⟩)⟩)⟩)⟩)⟩) ?_
   ·
    clear Hzq m30
    rintro m9 Y w31 oi9 ho9 hb9 hd9 ⟨va8,Ra8,ga8,va9,Ra9,ga9,va12,Ra12,ga12,va20,Ra20,ga20,va21,Ra21,ga21,va24,Ra24,ga24,va28,Ra28,ga28,va29,Ra29,ga29,U,mq⟩
    cases ho9; clear hb9
    clear hd9; refine ⟨rfl,fun K hK =>?_⟩
    refine e_litN U mq 108 (k := .i64) rfl rfl U35 fct16 rfl rfl rfl rfl ?_
    clear U Y mq; intro g32 Y w33 U m33
    have m34 := m33.freezeN 108 rfl
    exact hK _ _ (JL.c _ _ (Gd.new _ 8) (JL.c _ _ ga9.keep (JL.c _ _ ga12.keep (JL.c _ _ ga20.keep (JL.c _ _ ga21.keep (JL.c _ _ ga24.keep (JL.c _ _ ga28.keep (JL.c _ _ ga29.keep (JL.z ⟨U.only [17,18,21,29,30,33,37,38,1,3,9,10,11,12,13,14,15,16,19,20,22,23,24,25,26,27,28,31,32,34,35,36],m34.ren [(100,108),(101,101),(102,102),(103,103),(104,104),(105,105),(106,106),(107,107),(7,7)] (by decide)⟩)))))))))
   ·
    clear Hzq m30
    rintro m9 Y w35 oi9 ho9 hb9 hd9 ⟨va8,Ra8,ga8,va9,Ra9,ga9,va12,Ra12,ga12,va20,Ra20,ga20,va21,Ra21,ga21,va24,Ra24,ga24,va28,Ra28,ga28,va29,Ra29,ga29,U,mq⟩
    cases ho9; clear hb9
    obtain ⟨pa8,ca8,ea8,fa8⟩ := ga8.yes (hd9 8 (by kernel_rfl)); subst ea8; subst fa8
    clear hd9; refine ⟨rfl,fun K hK =>?_⟩
    refine e_call U Tryz.func57 rfl rfl rfl rfl (pnums_x [x.vo,x.bl,x.sz,x.pe] _ _ _ ((mq.rd (i := 100) rfl).any) (by simp) (l63 (fun z hz => by simp at hz; have := hP.h4; omega))) ?_
    rintro e w36 ⟨p36,c36,rfl,ho36,hb36⟩
    have m37 := mq.newN 108 hb36 ho36
    clear mq
    refine ⟨_,rfl,?_⟩; intro Y U
    have m39 := m37.freezeN 108 rfl
    exact hK _ _ (JL.c _ _ ga8.keep (JL.c _ _ (Gd.new _ 9) (JL.c _ _ ga12.keep (JL.c _ _ ga20.keep (JL.c _ _ ga21.keep (JL.c _ _ ga24.keep (JL.c _ _ ga28.keep (JL.c _ _ ga29.keep (JL.z ⟨U.only [17,18,21,29,30,33,37,38,1,3,9,10,11,12,13,14,15,16,19,20,22,23,24,25,26,27,28,31,32,34,35,36],m39.ren [(100,100),(101,108),(102,102),(103,103),(104,104),(105,105),(106,106),(107,107),(7,7)] (by decide)⟩)))))))))
   ·
    clear Hzq m30
    rintro m9 Y w40 oi9 ho9 hb9 hd9 ⟨va8,Ra8,ga8,va9,Ra9,ga9,va12,Ra12,ga12,va20,Ra20,ga20,va21,Ra21,ga21,va24,Ra24,ga24,va28,Ra28,ga28,va29,Ra29,ga29,U,mq⟩
    cases ho9; clear hb9
    obtain ⟨pa9,ca9,ea9,fa9⟩ := ga9.yes (hd9 9 (by kernel_rfl)); subst ea9; subst fa9
    clear hd9; refine ⟨rfl,fun K hK =>?_⟩
    refine e_call U Tryz.func69 rfl rfl rfl rfl (counted_x x.place _ _ _ ((h0.now' mq rfl).any) (by have := hP.pl.1; omega) (fun z hz => by have := hP.pl.2 z hz; omega)) ?_
    rintro e w41 ⟨p41,c41,rfl,ho41,hb41⟩
    have m42 := mq.newN 108 hb41 ho41
    clear mq
    refine ⟨_,rfl,?_⟩; intro Y U
    have m44 := m42.freezeN 108 rfl
    exact hK _ _ (JL.c _ _ ga8.keep (JL.c _ _ ga9.keep (JL.c _ _ (Gd.new _ 12) (JL.c _ _ ga20.keep (JL.c _ _ ga21.keep (JL.c _ _ ga24.keep (JL.c _ _ ga28.keep (JL.c _ _ ga29.keep (JL.z ⟨U.only [17,18,21,29,30,33,37,38,1,3,9,10,11,12,13,14,15,16,19,20,22,23,24,25,26,27,28,31,32,34,35,36],m44.ren [(100,100),(101,101),(102,108),(103,103),(104,104),(105,105),(106,106),(107,107),(7,7)] (by decide)⟩)))))))))
   ·
    clear Hzq m30
    rintro m9 Y w45 oi9 ho9 hb9 hd9 ⟨va8,Ra8,ga8,va9,Ra9,ga9,va12,Ra12,ga12,va20,Ra20,ga20,va21,Ra21,ga21,va24,Ra24,ga24,va28,Ra28,ga28,va29,Ra29,ga29,U,mq⟩
    cases ho9; clear hb9
    clear hd9; refine ⟨rfl,fun K hK =>?_⟩
    refine e_litN U mq 108 (k := .i64) rfl rfl U35 fct16 rfl rfl rfl rfl ?_
    clear U Y mq; intro g46 Y w47 U m47
    have m48 := m47.freezeN 108 rfl
    exact hK _ _ (JL.c _ _ ga8.keep (JL.c _ _ ga9.keep (JL.c _ _ ga12.keep (JL.c _ _ (Gd.new _ 20) (JL.c _ _ ga21.keep (JL.c _ _ ga24.keep (JL.c _ _ ga28.keep (JL.c _ _ ga29.keep (JL.z ⟨U.only [17,18,21,29,30,33,37,38,1,3,9,10,11,12,13,14,15,16,19,20,22,23,24,25,26,27,28,31,32,34,35,36],m48.ren [(100,100),(101,101),(102,102),(103,108),(104,104),(105,105),(106,106),(107,107),(7,7)] (by decide)⟩)))))))))
   ·
    clear Hzq m30
    rintro m9 Y w49 oi9 ho9 hb9 hd9 ⟨va8,Ra8,ga8,va9,Ra9,ga9,va12,Ra12,ga12,va20,Ra20,ga20,va21,Ra21,ga21,va24,Ra24,ga24,va28,Ra28,ga28,va29,Ra29,ga29,U,mq⟩
    cases ho9; clear hb9
    obtain ⟨pa20,ca20,ea20,fa20⟩ := ga20.yes (hd9 20 (by kernel_rfl)); subst ea20; subst fa20
    obtain ⟨pa12,ca12,ea12,fa12⟩ := ga12.yes (hd9 12 (by kernel_rfl)); subst ea12; subst fa12
    clear hd9; refine ⟨rfl,fun K hK =>?_⟩
    refine e_call U Tryz.func57 rfl rfl rfl rfl (pnums_x [x.to,x.ne,hidI x.hi,x.fl] _ _ _ ((mq.rd (i := 103) rfl).any) (by simp) (l63 (fun z hz => by simp at hz; have := hP.h3; have := hidI_bd x.hi; omega))) ?_
    rintro e w50 ⟨p50,c50,rfl,ho50,hb50⟩
    have m51 := mq.newN 108 hb50 ho50
    clear mq
    refine ⟨_,rfl,?_⟩; intro Y U
    have m53 := m51.freezeN 108 rfl
    exact hK _ _ (JL.c _ _ ga8.keep (JL.c _ _ ga9.keep (JL.c _ _ ga12.keep (JL.c _ _ ga20.keep (JL.c _ _ (Gd.new _ 21) (JL.c _ _ ga24.keep (JL.c _ _ ga28.keep (JL.c _ _ ga29.keep (JL.z ⟨U.only [17,18,21,29,30,33,37,38,1,3,9,10,11,12,13,14,15,16,19,20,22,23,24,25,26,27,28,31,32,34,35,36],m53.ren [(100,100),(101,101),(102,102),(103,103),(104,108),(105,105),(106,106),(107,107),(7,7)] (by decide)⟩)))))))))
   ·
    clear Hzq m30
    rintro m9 Y w54 oi9 ho9 hb9 hd9 ⟨va8,Ra8,ga8,va9,Ra9,ga9,va12,Ra12,ga12,va20,Ra20,ga20,va21,Ra21,ga21,va24,Ra24,ga24,va28,Ra28,ga28,va29,Ra29,ga29,U,mq⟩
    cases ho9; clear hb9
    obtain ⟨pa21,ca21,ea21,fa21⟩ := ga21.yes (hd9 21 (by kernel_rfl)); subst ea21; subst fa21
    clear hd9; refine ⟨rfl,fun K hK =>?_⟩
    refine e_call U Tryz.func105 rfl rfl rfl rfl (counted64_x x.pins _ _ _ ((h1.now' mq rfl).any) hP.pn.1 (fun z hz => by have := hP.pn.2 z hz; omega)) ?_
    rintro e w55 ⟨p55,c55,rfl,ho55,hb55⟩
    have m56 := mq.newN 108 hb55 ho55
    clear mq
    refine ⟨_,rfl,?_⟩; intro Y U
    have m58 := m56.freezeN 108 rfl
    exact hK _ _ (JL.c _ _ ga8.keep (JL.c _ _ ga9.keep (JL.c _ _ ga12.keep (JL.c _ _ ga20.keep (JL.c _ _ ga21.keep (JL.c _ _ (Gd.new _ 24) (JL.c _ _ ga28.keep (JL.c _ _ ga29.keep (JL.z ⟨U.only [17,18,21,29,30,33,37,38,1,3,9,10,11,12,13,14,15,16,19,20,22,23,24,25,26,27,28,31,32,34,35,36],m58.ren [(100,100),(101,101),(102,102),(103,103),(104,104),(105,108),(106,106),(107,107),(7,7)] (by decide)⟩)))))))))
   ·
    clear Hzq m30
    rintro m9 Y w59 oi9 ho9 hb9 hd9 ⟨va8,Ra8,ga8,va9,Ra9,ga9,va12,Ra12,ga12,va20,Ra20,ga20,va21,Ra21,ga21,va24,Ra24,ga24,va28,Ra28,ga28,va29,Ra29,ga29,U,mq⟩
    cases ho9; clear hb9
    clear hd9; refine ⟨rfl,fun K hK =>?_⟩
    refine e_litN U mq 108 (k := .i64) rfl rfl U35 fct16 rfl rfl rfl rfl ?_
    clear U Y mq; intro g60 Y w61 U m61
    have m62 := m61.freezeN 108 rfl
    exact hK _ _ (JL.c _ _ ga8.keep (JL.c _ _ ga9.keep (JL.c _ _ ga12.keep (JL.c _ _ ga20.keep (JL.c _ _ ga21.keep (JL.c _ _ ga24.keep (JL.c _ _ (Gd.new _ 28) (JL.c _ _ ga29.keep (JL.z ⟨U.only [17,18,21,29,30,33,37,38,1,3,9,10,11,12,13,14,15,16,19,20,22,23,24,25,26,27,28,31,32,34,35,36],m62.ren [(100,100),(101,101),(102,102),(103,103),(104,104),(105,105),(106,108),(107,107),(7,7)] (by decide)⟩)))))))))
   ·
    clear Hzq m30
    rintro m9 Y w63 oi9 ho9 hb9 hd9 ⟨va8,Ra8,ga8,va9,Ra9,ga9,va12,Ra12,ga12,va20,Ra20,ga20,va21,Ra21,ga21,va24,Ra24,ga24,va28,Ra28,ga28,va29,Ra29,ga29,U,mq⟩
    cases ho9; clear hb9
    obtain ⟨pa28,ca28,ea28,fa28⟩ := ga28.yes (hd9 28 (by kernel_rfl)); subst ea28; subst fa28
    obtain ⟨pa24,ca24,ea24,fa24⟩ := ga24.yes (hd9 24 (by kernel_rfl)); subst ea24; subst fa24
    clear hd9; refine ⟨rfl,fun K hK =>?_⟩
    refine e_call U Tryz.func57 rfl rfl rfl rfl (pnums_x [(x.ws.length : Int)] _ _ _ ((mq.rd (i := 106) rfl).any) (by simp) (l63 (fun z hz => by simp at hz; subst hz; have := hP.ws; omega))) ?_
    rintro e w64 ⟨p64,c64,rfl,ho64,hb64⟩
    have m65 := mq.newN 108 hb64 ho64
    clear mq
    refine ⟨_,rfl,?_⟩; intro Y U
    have m67 := m65.freezeN 108 rfl
    exact hK _ _ (JL.c _ _ ga8.keep (JL.c _ _ ga9.keep (JL.c _ _ ga12.keep (JL.c _ _ ga20.keep (JL.c _ _ ga21.keep (JL.c _ _ ga24.keep (JL.c _ _ ga28.keep (JL.c _ _ (Gd.new _ 29) (JL.z ⟨U.only [17,18,21,29,30,33,37,38,1,3,9,10,11,12,13,14,15,16,19,20,22,23,24,25,26,27,28,31,32,34,35,36],m67.ren [(100,100),(101,101),(102,102),(103,103),(104,104),(105,105),(106,106),(107,108),(7,7)] (by decide)⟩)))))))))
   clear Hzq m30
   rintro Y w68 ⟨va8,Ra8,ga8,va9,Ra9,ga9,va12,Ra12,ga12,va20,Ra20,ga20,va21,Ra21,ga21,va24,Ra24,ga24,va28,Ra28,ga28,va29,Ra29,ga29,U,mq⟩
   revert U
   obtain ⟨pa8,ca8,rfl,rfl⟩ := ga8.yes (show Nat.testBit 1073741823 8 = true by kernel_rfl)
   obtain ⟨pa9,ca9,rfl,rfl⟩ := ga9.yes (show Nat.testBit 1073741823 9 = true by kernel_rfl)
   obtain ⟨pa12,ca12,rfl,rfl⟩ := ga12.yes (show Nat.testBit 1073741823 12 = true by kernel_rfl)
   obtain ⟨pa20,ca20,rfl,rfl⟩ := ga20.yes (show Nat.testBit 1073741823 20 = true by kernel_rfl)
   obtain ⟨pa21,ca21,rfl,rfl⟩ := ga21.yes (show Nat.testBit 1073741823 21 = true by kernel_rfl)
   obtain ⟨pa24,ca24,rfl,rfl⟩ := ga24.yes (show Nat.testBit 1073741823 24 = true by kernel_rfl)
   obtain ⟨pa28,ca28,rfl,rfl⟩ := ga28.yes (show Nat.testBit 1073741823 28 = true by kernel_rfl)
   obtain ⟨pa29,ca29,rfl,rfl⟩ := ga29.yes (show Nat.testBit 1073741823 29 = true by kernel_rfl)
   intro U
   have m69 := mq
   refine so 30 ?_
   refine e_litR U m69 108 (mm := 1) rfl (.cons rfl rfl (.cons (m69.rd (i := 101) rfl) .nil)<|.cons rfl rfl (.cons (m69.rd (i := 102) rfl) .nil)<|.cons rfl rfl (.cons (m69.rd (i := 104) rfl) .nil)<|.cons rfl rfl (.cons (m69.rd (i := 105) rfl) .nil)<|.cons rfl rfl (.cons (m69.rd (i := 107) rfl) .nil) .nil) U23 fct19 rfl rfl rfl rfl rfl fun g70 Y w71 U m71 =>?_
   refine ⟨m71.to ⟨il,trivial⟩,?_⟩
   have m72 := m71.freezeR 108 rfl
   refine so 31 ?_
   refine ecn U Tryz.func68 rfl m72 109 (pjoin_is (ls := headL x) (S := headE x) ((m72.rd (i := 108) rfl).any) (by simp [headL]) (head_sum hP) (head_flat x)) fun p73 c73 Y w73 U m74 =>?_
   refine ⟨m74.to ⟨il,trivial⟩,?_⟩
   refine goA hP7 [32] 1 4294967295 8589934591 U (m74.to ⟨il,trivial⟩) (.assign rfl .nil) fun Y U =>?_
   refine wpAnyE_done (by kernel_rfl) ?_ _
   refine hK2 _ _ ?_
   refine wsk fun K3 hK3 =>?_
   replace U := U.oz [1,4]
   refine regS U (.fa 10 rfl U51<|.lb m74 7 U49 rfl rfl rfl<|.len rfl U49<|.move rfl .nil) fun Y U =>?_
   refine wp_block ?_
   refine wp_loop_ghost (fun g a w => ∃ (k : Nat) (p : Option Addr) (c : Nat),k ≤ x.ws.length ∧ g = x.ws.length - k ∧ Has 55 [(4,.slice p (headE x ++ wsE (x.ws.take k)).length c),(42,.slice pw x.ws.length cw),(43,.int .i64 x.ws.length),(44,.int .i64 k)] a ∧ MemOk (cn w0) w0 [(8,.num (.slice p (headE x ++ wsE (x.ws.take k)).length c) 5 .u8 (headE x ++ wsE (x.ws.take k)))] w) (x.ws.length) ?_ ?_
   · rw [show headE x = headE x ++ wsE (x.ws.take 0) by simp [wsE]] at m74 U
     exact ⟨0,_,_,Nat.zero_le _,rfl,U.only [4,42,43,44],m74.ren [(8,109)] (by decide)⟩
   clear U m74
   rintro g Y w82 ⟨k,p,c,hkl,hg,U,m82⟩
   refine regS U (.lss rfl rfl .nil) fun Y U =>?_
   refine wsk fun K4 hK4 =>?_
   refine bc U 45 ?_ ?_
   ·
    intro hb84 U; try simp only [QQ,Qax] at hb84
    have hk : k < x.ws.length := by omega
    obtain ⟨⟨xs,xl⟩,hes⟩ : ∃ e,x.ws[k]? = some e := ⟨_,List.getElem?_eq_getElem hk⟩
    have hx9 := hP.it _ (List.mem_of_getElem? hes)
    have hws := hP.ws
    dsimp only at hx9
    refine wct U ?_
    refine zss (hK4 _ _ ?_)
    refine wsk fun K5 hK5 =>?_
    refine wp_block ?_
    refine zsr fun K6 hK6 =>?_
    obtain ⟨gx86,ox86,vx86,hp86,hl86,hR86,hrg86⟩ := h2.extA (k) (r := [.v (.int .i64 xs),.l 2 (xl.map itD)]) (wrD_get hes)
    revert U
    cases hp86
    rcases hR86 with _ | ⟨hd86_0,_ | ⟨hd86_1,_ | _⟩⟩
    obtain rfl := hd86_0.v_out
    clear hd86_0
    obtain ⟨p87,c87,hv87,hw87⟩ := hd86_1.l_shape; subst hv87
    intro U
    refine goCh U (.c rfl (fun _ h_ => y_idx h_ rfl rfl U49 fct7 (k) rfl hk)<|.loadAt (hrg86 m82 rfl) rfl U103 rfl fct7 .nil) fun Y U =>?_
    refine plz (e_alloc U m82 201 fct8 rfl fun g90 Y w91 U m91 _ _ =>?_)
    refine plz (stw U m91 201 fct7 fun w92 m92 _ =>?_)
    refine znl (hK6 _ _ ?_)
    refine wp_region_lit ?_
    refine goCh U (.move rfl<|.fa 1 rfl U103<|.lb m92 201 U36 rfl rfl rfl .nil) fun Y U =>?_
    refine plz (ecn U Tryz.func70 rfl m92 202 (putIts_x xl _ _ _ _ ((hd86_1.now' m92 rfl).any) hx9.1 hx9.2) fun p96 c96 Y w96 U m97 =>?_)
    refine plz (e_appN U m97 8 rfl rfl rfl (m97.numsO (i := 202) rfl) U22 fct0 (by decide) (by have h8 := wsE_len hP k; have h9 := itE_le8 hx9; have h7 := head_len hP; simp only [List.length_append] at *; omega) rfl fun p99 c99 Y w100 U m100 =>?_)
    refine gz hK5 U (.assign rfl .nil) fun Y U =>?_
    replace U := U.oz [4,42,43,44]
    refine wp_region_lit ?_
    refine goCh U (.inc (k + 1)<|.move rfl .nil) fun Y U =>?_
    refine wpList_nil ?_
    show ∃ n',n' < _ ∧ _
    rw [wsE_snoc hes] at m100 U
    exact ⟨x.ws.length - (k + 1),by omega,k + 1,_,_,by omega,rfl,U.only [4,42,43,44],m100.ren [(8,8)] (by decide)⟩
   intro hb84 U; try simp only [QQ,Qax] at hb84
   revert U
   obtain rfl : k = x.ws.length := by omega
   intro U
   refine wcf U ?_
   refine wp_exit ?_
   refine hK3 _ _ ?_
   refine regS U (.move rfl<|.assign rfl .nil) fun Y U =>?_
   refine rt1 U ?_
   rw [List.take_length] at m82
   rw [List.take_length]
   exact ⟨_,_,rfl,m82.ok 8 _ rfl,m82.below⟩
 refine regS U (.fa 7 rfl U51<|.lb m2 20 U4 rfl rfl rfl .nil) fun Y U =>?_
 refine bc U 8 ?_ ?_
 ·
  intro hb109 U; try simp only [QQ,Qax] at hb109
  have hhi : x.hi = true := hb109
  refine wct U ?_
  refine wp_region_lit ?_
  refine goCh U (.assign rfl .nil) fun Y U =>?_
  refine wpList_nil ?_
  show K1 _ _
  exact hC1 _ _ ⟨_,by have h9 := U.only [1,3]; rw [show hidI x.hi = 1 by rw [hhi]; rfl]; exact h9,m2.ren [(7,20)] (by decide)⟩
 intro hb109 U; try simp only [QQ,Qax] at hb109
 have hhi : x.hi = false := hb109
 refine wcf U ?_
 refine wp_skip ?_
 show K1 _ _
 exact hC1 _ _ ⟨_,by have h9 := U.only [1,3]; rw [show hidI x.hi = 0 by rw [hhi]; rfl]; exact h9,m2.ren [(7,20)] (by decide)⟩
theorem snap_x (X : Cx) (B G : Nat) (L : List VolV) (w0 : World) (hV : ∀ y ∈ L,VP y) (hL9 : L.length ≤ 8) (m0 : MemOk X w0 [(1,.box B 87 [.map (some G)]),(2,.mp G 11 ((L).map keyV) ((L).map volD))] w0) :
   Calls Tryz.prog 22 #[.pointer (some ⟨B,0,none⟩)] w0 fun e w' => ∃ (p : Option Addr) (c : Nat),e = .returned (.slice p (snapE (allL L)).length c) ∧ MemOk X w0 [(1,.box B 87 [.map (some G)]),(2,.mp G 11 ((L).map keyV) ((L).map volD)),(3,.dat (.slice p (snapE (allL L)).length c) (.ns .u8 (snapE (allL L))))] w' := by
 refine ent1 Tryz.func22 rfl Tryz.ntmps22 fun Y U =>?_
 refine regS U (.assign rfl .nil) fun Y U =>?_
 refine zsr fun K0 hK0 =>?_
 refine goCh U (.move rfl<|.nilCheck rfl<|.fa 0 rfl U87<|.lb m0 1 U85 rfl rfl rfl<|.c rfl (fun _ h_ => y_lenM h_ m0 (i := 2) rfl rfl U85) .nil) fun Y U =>?_
 refine plz (e_litN U m0 20 (k := .i64) rfl rfl U35 fct16 rfl rfl rfl rfl fun g12 Y w13 U m13 =>?_)
 have m14 := m13.freezeN 20 rfl
 refine plz (ecn U Tryz.func57 rfl m14 21 (pnums_x [((L.map keyV).length : Int)] _ _ _ ((m14.rd (i := 20) rfl).any) (by simp) (l63 (fun z hz => by simp at hz; subst hz; omega))) fun p15 c15 Y w15 U m16 =>?_)
 refine gz hK0 U (.assign rfl .nil) fun Y U =>?_
 refine wsk fun K1 hK1 =>?_
 replace U := U.oz [0,2,3]
 refine zsr fun K2 hK2 =>?_
 refine goCh U (.move rfl .nil) fun Y U =>?_
 refine plz (ecl U Tryz.func51 rfl (ids_x _ _ _ L _ (by omega) (m16.into [(1,1),(2,2)] (by decide) rfl)) ?_)
 rintro e w22 ⟨p22,c22,rfl,hm22⟩
 have mx22 := m16.back hm22 [(1,1),(2,2),(9,3)] (by decide); clear hm22 m16
 have m22 := mx22.oz [1,2,9,20,21]
 refine ⟨_,rfl,?_⟩; intro Y U
 refine gz hK2 U (.len rfl U35<|.move rfl<|.nil) fun Y U =>?_
 refine wp_block ?_
 refine wp_loop_ghost (fun g a w => ∃ (k : Nat) (p q : Option Addr) (c d : Nat),k ≤ (idsL L).length ∧ g = (idsL L).length - k ∧ Has 31 [(0,.pointer (some ⟨B,0,none⟩)),(3,.slice p (encs [(L.length : Int)] ++ ((allL L).take k).flatMap volE).length c),(14,.slice q (idsL L).length d),(15,.int .i64 (idsL L).length),(16,.int .i64 k)] a ∧ MemOk X w0 [(1,.box B 87 [.map (some G)]),(2,.mp G 11 ((L).map keyV) ((L).map volD)),(9,.seg (.slice q (idsL L).length d) 3 1 ((idsL L).map nD)),(8,.num (.slice p (encs [(L.length : Int)] ++ ((allL L).take k).flatMap volE).length c) 5 .u8 (encs [(L.length : Int)] ++ ((allL L).take k).flatMap volE))] w) ((idsL L).length) ?_ ?_
 · rw [show encs [((L.map keyV).length : Int)] = encs [(L.length : Int)] ++ ((allL L).take 0).flatMap volE by simp] at m22 U
   exact ⟨0,_,_,_,_,Nat.zero_le _,rfl,U.only [0,3,14,15,16],m22.ren [(1,1),(2,2),(9,9),(8,21)] (by decide)⟩
 clear U m22
 rintro g Y w26 ⟨k,p,q,c,d,hkl,hg,U,m26⟩
 refine regS U (.lss rfl rfl .nil) fun Y U =>?_
 refine wsk fun K3 hK3 =>?_
 refine bc U 17 ?_ ?_
 ·
  intro hb28 U; try simp only [QQ,Qax] at hb28
  have hk : k < (idsL L).length := by omega
  obtain ⟨id,hid⟩ : ∃ z,(idsL L)[k]? = some z := ⟨_,List.getElem?_eq_getElem hk⟩
  obtain ⟨j,y,hj,hy,hay⟩ := all_at hid
  have hPy := hV y (List.mem_of_getElem? hj)
  have hll : (idsL L).length = L.length := by rw [ids_len,List.length_map]
  refine wct U ?_
  refine zss (hK3 _ _ ?_)
  refine wsk fun K4 hK4 =>?_
  refine wp_block ?_
  refine zsr fun K5 hK5 =>?_
  obtain ⟨gs30,os30,vs30,hp30,hl30,hR30,hsg30⟩ := m26.openS (i := 9) rfl (k) (r := [.v (.int .i64 id)]) (by rw [List.getElem?_map,hid]; rfl)
  revert U
  cases hp30
  rcases hR30 with _ | ⟨hd30_0,_ | _⟩
  obtain rfl := hd30_0.v_out
  clear hd30_0
  intro U
  refine gz hK5 U (.c rfl (fun _ h_ => y_idx h_ rfl rfl U35 fct17 (k) rfl (by omega))<|.loadAt1 hsg30 (q := 0) rfl rfl rfl U3 rfl<|.assign rfl<|.nil) fun Y U =>?_
  refine wp_region_lit ?_
  refine goCh U (.move rfl<|.move rfl<|.nilCheck rfl<|.fa 0 rfl U87<|.lb m26 1 U85 rfl rfl rfl<|.move rfl .nil) fun Y U =>?_
  obtain ⟨es40,ck40,hks40,hel40,hmk40,m40⟩ := m26.mpOpen (i := 2) rfl
  clear m26 hel40 hmk40
  have hki40 := mpKeys hks40 keyI
  obtain ⟨e40,vs40,he40,hev40,hR40,ho40,hvl40⟩ := m40.mpeAt (i := 2) rfl (r := [.v (.int .i64 y.vo),.v (.int .i64 y.bl),.v (.int .i64 y.sz),.v (.int .i64 y.pe),.ns .i64 y.place,.v (.int .i64 y.to),.v (.int .i64 y.ne),.v (.bool y.hi),.v (.int .i64 y.fl),.ns .i64 y.pins,.l 2 (y.ws.map wrD)]) (volD_get hj)
  have hek40 := mpKey hks40 he40 (keyV_get hj)
  clear ho40 hvl40
  revert U
  rcases hR40 with _ | ⟨hd40_0,_ | ⟨hd40_1,_ | ⟨hd40_2,_ | ⟨hd40_3,_ | ⟨hd40_4,_ | ⟨hd40_5,_ | ⟨hd40_6,_ | ⟨hd40_7,_ | ⟨hd40_8,_ | ⟨hd40_9,_ | ⟨hd40_10,_ | _⟩⟩⟩⟩⟩⟩⟩⟩⟩⟩⟩
  obtain rfl := hd40_0.v_out
  clear hd40_0
  obtain rfl := hd40_1.v_out
  clear hd40_1
  obtain rfl := hd40_2.v_out
  clear hd40_2
  obtain rfl := hd40_3.v_out
  clear hd40_3
  obtain ⟨p41,c41,hv41,hc41⟩ := hd40_4.ns_shape; subst hv41
  intro U
  have m41 := m40.dat 100 rfl (hd40_4.cast (fun _ h => h)); clear m40 hd40_4
  revert U
  obtain rfl := hd40_5.v_out
  clear hd40_5
  obtain rfl := hd40_6.v_out
  clear hd40_6
  obtain rfl := hd40_7.v_out
  clear hd40_7
  obtain rfl := hd40_8.v_out
  clear hd40_8
  obtain ⟨p42,c42,hv42,hc42⟩ := hd40_9.ns_shape; subst hv42
  intro U
  have m42 := m41.dat 101 rfl (hd40_9.cast (fun _ h => (free_add rfl h))); clear m41 hd40_9
  revert U
  obtain ⟨p43,c43,hv43,hc43⟩ := hd40_10.l_shape; subst hv43
  intro U
  have m43 := m42.dat 102 rfl (hd40_10.cast (fun _ h => (free_add rfl (free_add rfl h)))); clear m42 hd40_10
  refine goCh U (.c rfl (fun _ h_ => y_lookE1 h_ m43 (i := 2) rfl rfl rfl U85 (KeyT.int (q := .i64) U3) hki40 he40 (hek40.trans (keyV_eq hy)) hev40) .nil) fun Y U =>?_
  refine plz (ecn U Tryz.func58 rfl m43 103 (put_x y hPy _ _ _ _ _ _ _ _ ((m43.rd (i := 100) rfl).any) ((m43.rd (i := 101) rfl).any) ((m43.rd (i := 102) rfl).any)) fun p45 c45 Y w45 U m46 =>?_)
  refine plz (e_appN U m46 8 rfl rfl rfl (m46.numsO (i := 103) rfl) U22 fct0 (by decide) (by have h8 := volsE_len (l := (allL L).take k) (fun z hz => allL_mem hV (List.mem_of_mem_take hz)); have h7 := volE_len hPy; have h6 : ((allL L).take k).length ≤ k := List.length_take_le _ _; have h5 := encs_len [(L.length : Int)]; simp only [List.length_append,List.length_singleton] at *; omega) rfl fun p48 c48 Y w49 U m49 =>?_)
  refine gz hK4 U (.assign rfl .nil) fun Y U =>?_
  replace U := U.oz [0,3,14,15,16]
  refine wp_region_lit ?_
  refine goCh U (.inc (k + 1)<|.move rfl .nil) fun Y U =>?_
  refine wpList_nil ?_
  show ∃ n',n' < _ ∧ _
  have m54 := m49.mpClose (i := 2) rfl
  rw [hks40] at m54
  rw [List.append_assoc,snap_snoc hay] at m54 U
  exact ⟨(idsL L).length - (k + 1),by omega,k + 1,_,_,_,_,by omega,rfl,U.only [0,3,14,15,16],m54.ren [(1,1),(2,2),(9,9),(8,8)] (by decide)⟩
 intro hb28 U; try simp only [QQ,Qax] at hb28
 revert U
 obtain rfl : k = (idsL L).length := by omega
 intro U
 refine wcf U ?_
 refine wp_exit ?_
 refine hK1 _ _ ?_
 refine regS U (.move rfl<|.assign rfl .nil) fun Y U =>?_
 refine rt1 U ?_
 have m57 := m26.freezeN 8 rfl
 rw [show (allL L).take (idsL L).length = allL L from List.take_of_length_le (by rw [all_len]; exact Nat.le_refl _)] at m57 ⊢
 rw [show (L.length : Int) = ((allL L).length : Int) by rw [all_len,ids_len,List.length_map]] at m57 ⊢
 exact ⟨_,_,rfl,m57.ren [(1,1),(2,2),(3,8)] (by decide)⟩
end
end Go.Proofs.YtkehgingagggaaaGreat.K
