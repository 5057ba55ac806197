/- General laws of walks. -/
import Derived.Test.YtamjnimaeecmoaaGreatG3
namespace Go.Proofs.YtamjnimaeecmoaaGreat.K
open Go.ChangeShapes Go.WideShapes Go.ChangeAt Go.RowKit
set_option linter.unusedVariables false
set_option linter.unusedSimpArgs false
section
theorem le_snoc {l : List Int} {k : Nat} {a : Int} (h : ∀ j, j < k → l.getD j 0 ≤ a) (hk : l.getD k 0 ≤ a) : ∀ j, j < k + 1 → l.getD j 0 ≤ a := fun j hj => by
 rcases Nat.lt_or_ge j k with h1 | h1
 · exact h j h1
 obtain rfl : j = k := by omega
 exact hk
theorem nn_snoc {l : List Int} {k : Nat} {a : Int} (h : ∀ j, j < k → l.getD j 0 ≠ a) (hk : ¬ l.getD k 0 = a) : ∀ j, j < k + 1 → l.getD j 0 ≠ a := fun j hj => by
 rcases Nat.lt_or_ge j k with h1 | h1
 · exact h j h1
 obtain rfl : j = k := by omega
 exact hk
theorem sortP_sorted (l : List Int) : (sortP l).Pairwise (· ≤ ·) := by
 have h := List.pairwise_mergeSort (le := fun (x y : Int) => decide (x ≤ y)) (fun a b c h1 h2 => by simp at h1 h2 ⊢; omega) (fun a b => by simp; omega) l
 exact h.imp (fun h => by simpa using h)
theorem pin_sorted {pins : List Int} {at0 : Int} {k : Nat} (hs : pins.Pairwise (· ≤ ·)) (hall : ∀ j, j < k → pins.getD j 0 ≤ at0) (hkl : k ≤ pins.length) (hnx : k = pins.length ∨ at0 < pins.getD k 0) : pins.take k ++ [at0] ++ pins.drop k = sortP (pins ++ [at0]) := by
 refine List.Perm.eq_of_pairwise (le := (· ≤ ·)) (fun a b _ _ h1 h2 => by omega) ?_ (sortP_sorted _) ?_
 · rw [List.append_assoc, List.pairwise_append]
   refine ⟨hs.sublist (List.take_sublist _ _), ?_, ?_⟩
   · rw [List.singleton_append, List.pairwise_cons]
     refine ⟨fun b hb => ?_, hs.sublist (List.drop_sublist _ _)⟩
     rcases hnx with rfl | hnx
     · rw [List.drop_length] at hb; cases hb
     obtain ⟨j, hj, rfl⟩ := List.getElem_of_mem hb
     rw [List.length_drop] at hj
     rw [List.getElem_drop]
     have h1 : pins.getD k 0 ≤ pins[k + j] := by
       rw [List.getD, List.getElem?_eq_getElem (by omega)]
       rcases Nat.eq_zero_or_pos j with rfl | hj0
       · exact Int.le_refl _
       exact List.pairwise_iff_getElem.1 hs k (k + j) (by omega) (by omega) (by omega)
     omega
   intro a ha b hb
   obtain ⟨j, hj, rfl⟩ := List.getElem_of_mem ha
   rw [List.length_take] at hj
   rw [List.getElem_take]
   have h1 : pins[j] ≤ at0 := by have := hall j (by omega); rwa [List.getD, List.getElem?_eq_getElem (by omega)] at this
   rcases List.mem_append.1 hb with hb | hb
   · simp at hb; omega
   obtain ⟨i, hi, rfl⟩ := List.getElem_of_mem hb
   rw [List.length_drop] at hi
   rw [List.getElem_drop]
   exact List.pairwise_iff_getElem.1 hs j (k + i) (by omega) (by omega) (by omega)
 refine List.Perm.trans ?_ (List.mergeSort_perm _ _).symm
 rw [List.append_assoc]
 refine (List.Perm.append_left _ (List.perm_append_comm)).trans ?_
 rw [← List.append_assoc, List.take_append_drop]
set_option maxRecDepth 100000
set_option maxHeartbeats 4000000
theorem rdone (X : Cx) (vo bl sz pe to ne fl : Int) (hi : Bool) (place pins : List Int) (ws : List (Int × List (Int × List Int))) (items : List (Int × List Int)) (pp pn pw : Option Addr) (cp cn9 cw : Nat) (pi : Option Addr) (ci : Nat) (kd v1 v2 v3 v4 v5 at0 ix : Int) (q1 : Option Addr) (n1 c1 : Nat) (w0 : World) (hk4 : kd ≠ 4) (hk5 : kd ≠ 5) (hne : -1000000000000000 ≤ ne ∧ ne ≤ 1000000000000000) (hl : ws.length ≤ 900000) (hp : pins.length ≤ 1000000) (hil : items.length ≤ 1000000) (hio : ItsOk items) (m0 : MemOk X w0 [(1, .dat (.slice pp place.length cp) (.ns .i64 place)), (2, .dat (.slice pn pins.length cn9) (.ns .i64 pins)), (3, .dat (.slice pw (ws.map wrD).length cw) (.l 2 (ws.map wrD))), (4, .dat (.slice pi items.length ci) (.l 2 (items.map itD)))] w0) :
   Calls Tryz.prog 94 #[.agg #[.int .i64 vo, .int .i64 bl, .int .i64 sz, .int .i64 pe, .slice pp place.length cp, .int .i64 to, .int .i64 ne, .bool hi, .int .i64 fl, .slice pn pins.length cn9, .slice pw (ws.map wrD).length cw], .agg #[.int .i64 kd, .int .i64 v1, .int .i64 v2, .int .i64 v3, .int .i64 v4, .slice q1 n1 c1, .int .i64 v5, .int .i64 at0, .int .i64 ix, .slice pi items.length ci]] w0 fun e w' => ∃ (ne' : Int) (hi' : Bool) (fl' : Int) (ws' : List (Int × List (Int × List Int))) (e9 : Int) (p3' : Option Addr) (d3' : Nat), e = .returned (.tuple #[.agg #[.int .i64 vo, .int .i64 bl, .int .i64 sz, .int .i64 pe, .slice pp place.length cp, .int .i64 to, .int .i64 ne', .bool hi', .int .i64 fl', .slice pn pins.length cn9, .slice p3' (ws'.map wrD).length d3'], .int .i64 e9]) ∧ doR bl sz to ne fl hi pins ws kd at0 ix items = (ne', hi', fl', ws', e9) ∧ MemOk X w0 [(1, .dat (.slice pp place.length cp) (.ns .i64 place)), (2, .dat (.slice pn pins.length cn9) (.ns .i64 pins)), (3, .dat (.slice pw (ws.map wrD).length cw) (.l 2 (ws.map wrD))), (4, .dat (.slice pi items.length ci) (.l 2 (items.map itD))), (7, .dat (.slice p3' (ws'.map wrD).length d3') (.l 2 (ws'.map wrD)))] w' := by
 refine ent2 Tryz.func94 rfl Tryz.ntmps94 fun Az Hz => ?_
 refine zsr fun K0 hK0 => ?_
 refine plz (e_box Hz m0 20 (cs := [_, _, _, _, _, _, _, _, _, _, _]) rfl rfl rfl fun g1 Az w2 Hz m2 _ _ => ?_)
 refine plz (e_box Hz m2 21 (cs := [_, _, _, _, _, _, _, _, _, _]) rfl rfl rfl fun g3 Az w4 Hz m4 _ _ => ?_)
 refine plz (e_alloc Hz m4 22 fct2 rfl fun g5 Az w6 Hz m6 _ _ => ?_)
 refine gz hK0 Hz (.assign rfl .nil) fun Az Hz => ?_
 refine wsk fun K1 hK1 => ?_
 refine regS Hz (.fa 0 rfl U81 <| .lb m6 21 U3 rfl rfl rfl .nil) fun Az Hz => ?_
 refine wp_block ?_
 refine wsk fun K2 hK2 => ?_
 refine regS Hz (.eql rfl rfl <| .assign rfl .nil) fun Az Hz => ?_
 refine bc Hz 10 ?_ ?_
 ·
  intro hb12 Hz; try simp only [QQ, Qax] at hb12
  refine wct Hz ?_
  refine zss (hK2 _ _ ?_)
  refine wct Hz ?_
  refine regS Hz (.fa 7 rfl U33 <| .lb m6 20 U4 rfl rfl rfl .nil) fun Az Hz => ?_
  refine bc Hz 16 ?_ ?_
  ·
   intro hb15 Hz; try simp only [QQ, Qax] at hb15
   refine wct Hz ?_
   replace Hz := Hz.oz [2, 3, 4, 5, 10, 16]
   refine zsr fun K3 hK3 => ?_
   refine goCh Hz (.loadBR m6 (i := 20) rfl rfl U33 rfl fct1 (by simp) (by dsimp only [List.drop, List.take] <;> rfl) .nil) fun Az Hz => ?_
   refine plz (stw Hz m6 22 fct1 fun w19 m19 _ => ?_)
   refine gz hK3 Hz (.assign rfl .nil) fun Az Hz => ?_
   refine rtd (retCT (fn := Tryz.f94) Hz m19 (i := 22) rfl rfl rfl rfl U33 rfl fct1 ?_)
   have m21 := m19.dat 23 rfl (m19.rd (i := 3) rfl)
   exact ⟨ne, hi, fl, ws, 28, _, _, rfl, by rw [doR, if_pos (by omega), putR, if_pos (by assumption)], m21.ren [(1, 1), (2, 2), (3, 3), (4, 4), (7, 23)] (by decide)⟩
  intro hb15 Hz; try simp only [QQ, Qax] at hb15
  refine wcf Hz ?_
  refine zss (hK1 _ _ ?_)
  refine wsk fun K4 hK4 => ?_
  replace Hz := Hz.oz [2, 3, 4, 5, 10, 16]
  refine regS Hz (.fa 0 rfl U81 <| .lb m6 21 U3 rfl rfl rfl .nil) fun Az Hz => ?_
  refine wp_block ?_
  refine regS Hz (.eql rfl rfl <| .assign rfl .nil) fun Az Hz => ?_
  refine bc Hz 21 ?_ ?_
  rotate_left
  · intro hb _; exact absurd hb (by simp; omega)
  clear Hz; intro _ Hz
  refine wct Hz ?_
  refine wsk fun K5 hK5 => ?_
  refine zsr fun K6 hK6 => ?_
  refine goCh Hz (.fa 1 rfl U33 <| .lb m6 20 U3 rfl rfl rfl <| .fa 2 rfl U33 <| .lb m6 20 U3 rfl rfl rfl <| .fa 9 rfl U81 <| .lb m6 21 U40 rfl rfl rfl .nil) fun Az Hz => ?_
  refine plz (ecl Hz Tryz.func96 rfl (ritems_any _ _ items _ _ _ _ ((m6.rd (i := 4) rfl).any) hil) ?_)
  rintro e w40 ⟨ib, rfl, hib, hb40⟩
  have m41 := m6.later hb40
  refine ⟨_, rfl, ?_⟩; intro Az Hz
  refine gz hK6 Hz (.not rfl .nil) fun Az Hz => ?_
  refine bc Hz 30 ?_ ?_
  ·
   intro hb44 Hz; try simp only [QQ, Qax] at hb44
   refine wct Hz ?_
   replace Hz := Hz.oz [2, 3, 4, 5, 10, 16, 19, 21, 30]
   refine zsr fun K7 hK7 => ?_
   refine goCh Hz (.loadBR m41 (i := 20) rfl rfl U33 rfl fct1 (by simp) (by dsimp only [List.drop, List.take] <;> rfl) .nil) fun Az Hz => ?_
   refine plz (stw Hz m41 22 fct1 fun w48 m48 _ => ?_)
   refine gz hK7 Hz (.assign rfl .nil) fun Az Hz => ?_
   refine rtd (retCT (fn := Tryz.f94) Hz m48 (i := 22) rfl rfl rfl rfl U33 rfl fct1 ?_)
   have m50 := m48.dat 23 rfl (m48.rd (i := 3) rfl)
   exact ⟨ne, hi, fl, ws, 23, _, _, rfl, by rw [doR, if_pos (by omega), putR, if_neg (by simp_all), wrR, if_neg (fun h => by have h9 := hib.2 h; simp_all)], m50.ren [(1, 1), (2, 2), (3, 3), (4, 4), (7, 23)] (by decide)⟩
  intro hb44 Hz; try simp only [QQ, Qax] at hb44
  refine wcf Hz ?_
  refine zss (hK5 _ _ ?_)
  replace Hz := Hz.oz [2, 3, 4, 5, 10, 16, 19, 21, 30]
  refine zsr fun K8 hK8 => ?_
  refine goCh Hz (.loadBR m41 (i := 20) rfl rfl U33 rfl fct1 (by simp) (by dsimp only [List.drop, List.take] <;> rfl) <| .fa 9 rfl U81 <| .lb m41 21 U40 rfl rfl rfl .nil) fun Az Hz => ?_
  refine plz (ecl Hz Tryz.func123 rfl (rwrite_fr _ _ _ _ _ _ _ _ _ place pins ws items _ _ _ _ _ _ _ _ _ hl hil hio (m41.into [(1, 1), (2, 2), (3, 3), (4, 4)] (by decide) rfl)) ?_)
  rintro e w58 ⟨p58, c58, rfl, hm58⟩
  have mx58 := m41.back hm58 [(1, 1), (2, 2), (3, 3), (4, 4), (23, 7)] (by decide); clear hm58 m41
  have m58 := mx58.oz [1, 2, 3, 4, 23, 20, 21, 22]
  refine ⟨_, rfl, ?_⟩; intro Az Hz
  refine plz (stw Hz m58 22 fct1 fun w60 m60 _ => ?_)
  refine gz hK8 Hz (.assign rfl .nil) fun Az Hz => ?_
  refine rtd (retCT (fn := Tryz.f94) Hz m60 (i := 22) rfl rfl rfl rfl U33 rfl fct1 ?_)
  exact ⟨ne, hi, fl, (ws ++ [((ws.length : Int) + 1, items)]), 0, _, _, rfl, by rw [doR, if_pos (by omega), putR, if_neg (by simp_all), wrR, if_pos (hib.1 (by simp_all))], m60.ren [(1, 1), (2, 2), (3, 3), (4, 4), (7, 23)] (by decide)⟩
 intro hb12 Hz; try simp only [QQ, Qax] at hb12
 refine wcf Hz ?_
 refine regS Hz (.eql rfl rfl <| .assign rfl .nil) fun Az Hz => ?_
 refine bc Hz 10 ?_ ?_
 ·
  intro hb64 Hz; try simp only [QQ, Qax] at hb64
  refine wct Hz ?_
  refine zss (hK2 _ _ ?_)
  refine wct Hz ?_
  replace Hz := Hz.oz [2, 3, 4, 5, 10]
  refine regS Hz (.fa 7 rfl U33 <| .lb m6 20 U4 rfl rfl rfl .nil) fun Az Hz => ?_
  refine bc Hz 16 ?_ ?_
  ·
   intro hb68 Hz; try simp only [QQ, Qax] at hb68
   refine wct Hz ?_
   refine zsr fun K9 hK9 => ?_
   refine goCh Hz (.loadBR m6 (i := 20) rfl rfl U33 rfl fct1 (by simp) (by dsimp only [List.drop, List.take] <;> rfl) .nil) fun Az Hz => ?_
   refine plz (stw Hz m6 22 fct1 fun w71 m71 _ => ?_)
   refine gz hK9 Hz (.assign rfl .nil) fun Az Hz => ?_
   refine rtd (retCT (fn := Tryz.f94) Hz m71 (i := 22) rfl rfl rfl rfl U33 rfl fct1 ?_)
   have m73 := m71.dat 23 rfl (m71.rd (i := 3) rfl)
   exact ⟨ne, hi, fl, ws, 28, _, _, rfl, by rw [doR, if_neg (by omega), if_pos (by omega), pruneR]; simp_all [reachR], m73.ren [(1, 1), (2, 2), (3, 3), (4, 4), (7, 23)] (by decide)⟩
  intro hb68 Hz; try simp only [QQ, Qax] at hb68
  refine wcf Hz ?_
  refine zss (hK1 _ _ ?_)
  refine wsk fun K10 hK10 => ?_
  refine regS Hz (.fa 0 rfl U81 <| .lb m6 21 U3 rfl rfl rfl .nil) fun Az Hz => ?_
  refine wp_block ?_
  refine regS Hz (.eql rfl rfl <| .assign rfl .nil) fun Az Hz => ?_
  refine bc Hz 21 ?_ ?_
  · intro hb _; exact absurd hb (by simp; omega)
  clear Hz; intro _ Hz
  refine wcf Hz ?_
  refine regS Hz (.eql rfl rfl <| .assign rfl .nil) fun Az Hz => ?_
  refine bc Hz 36 ?_ ?_
  rotate_left
  · intro hb _; exact absurd hb (by simp; omega)
  clear Hz; intro _ Hz
  refine wct Hz ?_
  refine wsk fun K11 hK11 => ?_
  refine regS Hz (.fa 7 rfl U81 <| .lb m6 21 U2 rfl rfl rfl <| .fa 8 rfl U33 <| .lb m6 20 U2 rfl rfl rfl <| .lss rfl rfl .nil) fun Az Hz => ?_
  refine bc Hz 42 ?_ ?_
  ·
   intro hb87 Hz; try simp only [QQ, Qax] at hb87
   refine wct Hz ?_
   replace Hz := Hz.oz [2, 3, 4, 5, 10, 16, 19, 21, 36, 42]
   refine zsr fun K12 hK12 => ?_
   refine goCh Hz (.loadBR m6 (i := 20) rfl rfl U33 rfl fct1 (by simp) (by dsimp only [List.drop, List.take] <;> rfl) .nil) fun Az Hz => ?_
   refine plz (stw Hz m6 22 fct1 fun w91 m91 _ => ?_)
   refine gz hK12 Hz (.assign rfl .nil) fun Az Hz => ?_
   refine rtd (retCT (fn := Tryz.f94) Hz m91 (i := 22) rfl rfl rfl rfl U33 rfl fct1 ?_)
   have m93 := m91.dat 23 rfl (m91.rd (i := 3) rfl)
   exact ⟨ne, hi, fl, ws, 30, _, _, rfl, by rw [doR, if_neg (by omega), if_pos (by omega), pruneR]; rw [show reachR hi fl at0 (lowL ws.length pins) = 30 from by rw [reachR, if_neg (by simp_all), if_pos (by omega)]]; rfl, m93.ren [(1, 1), (2, 2), (3, 3), (4, 4), (7, 23)] (by decide)⟩
  intro hb87 Hz; try simp only [QQ, Qax] at hb87
  refine wcf Hz ?_
  refine zss (hK11 _ _ ?_)
  refine wsk fun K13 hK13 => ?_
  refine wsk fun K14 hK14 => ?_
  replace Hz := Hz.oz [2, 3, 4, 5, 10, 16, 19, 21, 36, 42]
  have m95 := m6.oz [1, 2, 3, 4, 20, 21, 22]
  refine region_p 5 (B := [(1, _), (2, _), (3, _), (4, _), (20, _), (21, _), (22, _)]) (m95.to ⟨il, il, il, il, il, il, il, trivial⟩) m95 (by kernel_rfl) (fun w96 hP96 m96 => ?_); clear m95
  refine goR hP96 [0, 1, 2] [1, 2] 3 0 7 Hz (m96.to ⟨il, il, il, il, il, il, il, trivial⟩) (.fa 7 rfl U81 <| .lb hh 21 U2 rfl rfl rfl <| .loadBR hh (i := 20) rfl rfl U33 rfl fct1 (by simp) (by dsimp only [List.drop, List.take] <;> rfl) .nil) fun Az Hz => ?_
  refine stepE_only 3 rfl (by kernel_rfl) rfl (fun K hK => ?_)
  refine e_call Hz Tryz.func124 rfl rfl rfl rfl (rlow_any _ _ _ _ _ _ _ _ pins _ _ _ _ _ _ _ _ _ ((m96.rd (i := 2) rfl).any) hp) ?_
  rintro e w100 ⟨rfl, hb100⟩
  rw [List.length_map]
  have m101 := m96.later hb100
  refine ⟨_, rfl, ?_⟩; intro Az Hz
  refine hK _ _ (m101.to ⟨il, il, il, il, il, il, il, trivial⟩) ?_; clear hK K
  refine goA hP96 [4] 1 15 31 Hz (m101.to ⟨il, il, il, il, il, il, il, trivial⟩) (.gtr rfl rfl .nil) fun Az Hz => ?_
  refine wpAnyE_done (by kernel_rfl) ?_ _
  refine hK14 _ _ ?_
  refine bc Hz 48 ?_ ?_
  ·
   intro hb104 Hz; try simp only [QQ, Qax] at hb104
   refine wct Hz ?_
   refine zsr fun K15 hK15 => ?_
   refine goCh Hz (.loadBR m101 (i := 20) rfl rfl U33 rfl fct1 (by simp) (by dsimp only [List.drop, List.take] <;> rfl) .nil) fun Az Hz => ?_
   refine plz (stw Hz m101 22 fct1 fun w107 m107 _ => ?_)
   refine gz hK15 Hz (.assign rfl .nil) fun Az Hz => ?_
   refine rtd (retCT (fn := Tryz.f94) Hz m107 (i := 22) rfl rfl rfl rfl U33 rfl fct1 ?_)
   have m109 := m107.dat 23 rfl (m107.rd (i := 3) rfl)
   exact ⟨ne, hi, fl, ws, 31, _, _, rfl, by rw [doR, if_neg (by omega), if_pos (by omega), pruneR]; rw [show reachR hi fl at0 (lowL ws.length pins) = 31 from by rw [reachR, if_neg (by simp_all), if_neg (by omega), if_pos (by omega)]]; rfl, m109.ren [(1, 1), (2, 2), (3, 3), (4, 4), (7, 23)] (by decide)⟩
  intro hb104 Hz; try simp only [QQ, Qax] at hb104
  refine wcf Hz ?_
  refine zss (hK13 _ _ ?_)
  refine wp_region_lit ?_
  refine goCh Hz (.fa 7 rfl U81 <| .lb m101 21 U2 rfl rfl rfl <| .fa 8 rfl U33 .nil) fun Az Hz => ?_
  refine plz (st1 Hz m101 20 fct10 fun w113 m113 _ => ?_)
  refine znl (hK10 _ _ ?_)
  replace Hz := Hz.oz [2, 4, 5, 10, 16, 21, 36, 42, 48]
  refine zsr fun K16 hK16 => ?_
  refine goCh Hz (.loadBR m113 (i := 20) rfl rfl U33 rfl fct1 (by simp) (by dsimp only [List.drop, List.take] <;> rfl) .nil) fun Az Hz => ?_
  refine plz (stw Hz m113 22 fct1 fun w117 m117 _ => ?_)
  refine gz hK16 Hz (.assign rfl .nil) fun Az Hz => ?_
  refine rtd (retCT (fn := Tryz.f94) Hz m117 (i := 22) rfl rfl rfl rfl U33 rfl fct1 ?_)
  have m119 := m117.dat 23 rfl (m117.rd (i := 3) rfl)
  exact ⟨ne, hi, at0, ws, 0, _, _, rfl, by rw [doR, if_neg (by omega), if_pos (by omega), pruneR]; rw [show reachR hi fl at0 (lowL ws.length pins) = 0 from by rw [reachR, if_neg (by simp_all), if_neg (by omega), if_neg (by omega)]]; rfl, m119.ren [(1, 1), (2, 2), (3, 3), (4, 4), (7, 23)] (by decide)⟩
 intro hb64 Hz; try simp only [QQ, Qax] at hb64
 refine wcf Hz ?_
 refine regS Hz (.eql rfl rfl <| .assign rfl .nil) fun Az Hz => ?_
 refine bc Hz 10 ?_ ?_
 · intro hb _; exact absurd hb (by simp; omega)
 clear Hz; intro _ Hz
 refine wcf Hz ?_
 replace Hz := Hz.oz [2, 3, 4, 5, 9, 10]
 refine wp_region_lit ?_
 refine gz hK2 Hz (.eql rfl rfl <| .assign rfl <| .nil) fun Az Hz => ?_
 refine bc Hz 10 ?_ ?_
 · intro hb _; exact absurd hb (by simp; omega)
 clear Hz; intro _ Hz
 refine wcf Hz ?_
 refine zss (hK1 _ _ ?_)
 refine wsk fun K17 hK17 => ?_
 refine regS Hz (.fa 0 rfl U81 <| .lb m6 21 U3 rfl rfl rfl .nil) fun Az Hz => ?_
 refine wp_block ?_
 refine regS Hz (.eql rfl rfl <| .assign rfl .nil) fun Az Hz => ?_
 refine bc Hz 21 ?_ ?_
 · intro hb _; exact absurd hb (by simp; omega)
 clear Hz; intro _ Hz
 refine wcf Hz ?_
 refine regS Hz (.eql rfl rfl <| .assign rfl .nil) fun Az Hz => ?_
 refine bc Hz 36 ?_ ?_
 · intro hb _; exact absurd hb (by simp; omega)
 clear Hz; intro _ Hz
 refine wcf Hz ?_
 refine regS Hz (.eql rfl rfl <| .assign rfl .nil) fun Az Hz => ?_
 refine bc Hz 53 ?_ ?_
 · intro hb _; exact absurd hb (by simp; omega)
 clear Hz; intro _ Hz
 refine wcf Hz ?_
 replace Hz := Hz.oz [2, 3, 4, 5, 10, 19, 21, 36]
 refine regS Hz (.eql rfl rfl <| .assign rfl .nil) fun Az Hz => ?_
 refine bc Hz 99 ?_ ?_
 · intro hb _; exact absurd hb (by simp; omega)
 clear Hz; intro _ Hz
 refine wcf Hz ?_
 refine regS Hz (.eql rfl rfl <| .assign rfl .nil) fun Az Hz => ?_
 refine bc Hz 130 ?_ ?_
 ·
  intro hb144 Hz; try simp only [QQ, Qax] at hb144
  refine wct Hz ?_
  refine wsk fun K18 hK18 => ?_
  refine regS Hz (.fa 7 rfl U33 <| .lb m6 20 U4 rfl rfl rfl <| .not rfl .nil) fun Az Hz => ?_
  refine bc Hz 134 ?_ ?_
  ·
   intro hb148 Hz; try simp only [QQ, Qax] at hb148
   refine wct Hz ?_
   refine zsr fun K19 hK19 => ?_
   refine goCh Hz (.loadBR m6 (i := 20) rfl rfl U33 rfl fct1 (by simp) (by dsimp only [List.drop, List.take] <;> rfl) .nil) fun Az Hz => ?_
   refine plz (stw Hz m6 22 fct1 fun w151 m151 _ => ?_)
   refine gz hK19 Hz (.assign rfl .nil) fun Az Hz => ?_
   refine rtd (retCT (fn := Tryz.f94) Hz m151 (i := 22) rfl rfl rfl rfl U33 rfl fct1 ?_)
   have m153 := m151.dat 23 rfl (m151.rd (i := 3) rfl)
   exact ⟨ne, hi, fl, ws, 33, _, _, rfl, by rw [doR, if_neg (by omega), if_neg (by omega), if_pos (by omega), takeR, if_pos (by simp_all)], m153.ren [(1, 1), (2, 2), (3, 3), (4, 4), (7, 23)] (by decide)⟩
  intro hb148 Hz; try simp only [QQ, Qax] at hb148
  refine wcf Hz ?_
  refine zss (hK18 _ _ ?_)
  refine wsk fun K20 hK20 => ?_
  refine zsr fun K21 hK21 => ?_
  refine goCh Hz (.fa 8 rfl U81 <| .lb m6 21 U3 rfl rfl rfl <| .geq rfl rfl <| .move rfl .nil) fun Az Hz => ?_
  refine bc Hz 139 ?_ ?_
  ·
   intro hb162 Hz; try simp only [QQ, Qax] at hb162
   refine gz hK21 Hz (.faZ 8 rfl U81 <| .loadB1Z m6 (i := 21) rfl rfl rfl U3 rfl <| .faZ 6 rfl U33 <| .loadB1Z m6 (i := 20) rfl rfl rfl U3 rfl <| .lssZ rfl rfl <| .pickT rfl rfl <| .nil) fun Az Hz => ?_
   refine bc Hz 145 ?_ ?_
   ·
    intro hb169 Hz; try simp only [QQ, Qax] at hb169
    refine wct Hz ?_
    replace Hz := Hz.oz [2, 3, 4, 5, 10, 19, 21, 36, 130, 134, 139, 145]
    refine zsr fun K22 hK22 => ?_
    refine goCh Hz (.loadBR m6 (i := 20) rfl rfl U33 rfl fct1 (by simp) (by dsimp only [List.drop, List.take] <;> rfl) .nil) fun Az Hz => ?_
    refine plz (stw Hz m6 22 fct1 fun w173 m173 _ => ?_)
    refine gz hK22 Hz (.assign rfl .nil) fun Az Hz => ?_
    refine rtd (retCT (fn := Tryz.f94) Hz m173 (i := 22) rfl rfl rfl rfl U33 rfl fct1 ?_)
    have m175 := m173.dat 23 rfl (m173.rd (i := 3) rfl)
    exact ⟨ne, hi, fl, ws, 0, _, _, rfl, by rw [doR, if_neg (by omega), if_neg (by omega), if_pos (by omega), takeR, if_neg (by simp_all), if_pos (by omega)], m175.ren [(1, 1), (2, 2), (3, 3), (4, 4), (7, 23)] (by decide)⟩
   intro hb169 Hz; try simp only [QQ, Qax] at hb169
   refine wcf Hz ?_
   refine zss (hK20 _ _ ?_)
   refine wsk fun K23 hK23 => ?_
   replace Hz := Hz.oz [2, 3, 4, 5, 10, 19, 21, 36, 130, 134, 139, 145]
   refine zsr fun K24 hK24 => ?_
   refine goCh Hz (.fa 8 rfl U81 <| .lb m6 21 U3 rfl rfl rfl <| .fa 6 rfl U33 <| .lb m6 20 U3 rfl rfl rfl <| .neq rfl rfl <| .move rfl .nil) fun Az Hz => ?_
   refine bc Hz 152 ?_ ?_
   ·
    intro hb189 Hz; try simp only [QQ, Qax] at hb189
    refine gz hK24 Hz (.sk <| .sk <| .sk <| .sk <| .sk <| .pickT rfl rfl <| .nil) fun Az Hz => ?_
    refine wct Hz ?_
    replace Hz := Hz.oz [2, 3, 4, 5, 10, 19, 21, 36, 130, 134, 139, 145, 152, 158]
    refine zsr fun K25 hK25 => ?_
    refine goCh Hz (.loadBR m6 (i := 20) rfl rfl U33 rfl fct1 (by simp) (by dsimp only [List.drop, List.take] <;> rfl) .nil) fun Az Hz => ?_
    refine plz (stw Hz m6 22 fct1 fun w199 m199 _ => ?_)
    refine gz hK25 Hz (.assign rfl .nil) fun Az Hz => ?_
    refine rtd (retCT (fn := Tryz.f94) Hz m199 (i := 22) rfl rfl rfl rfl U33 rfl fct1 ?_)
    have m201 := m199.dat 23 rfl (m199.rd (i := 3) rfl)
    exact ⟨ne, hi, fl, ws, 33, _, _, rfl, by rw [doR, if_neg (by omega), if_neg (by omega), if_pos (by omega), takeR, if_neg (by simp_all), if_neg (by omega), if_pos (by omega)], m201.ren [(1, 1), (2, 2), (3, 3), (4, 4), (7, 23)] (by decide)⟩
   intro hb189 Hz; try simp only [QQ, Qax] at hb189
   refine gz hK24 Hz (.faZ 6 rfl U33 <| .loadB1Z m6 (i := 20) rfl rfl rfl U3 rfl <| .faZ 5 rfl U33 <| .loadB1Z m6 (i := 20) rfl rfl rfl U3 rfl <| .eqlZ rfl rfl <| .pickF rfl rfl <| .nil) fun Az Hz => ?_
   refine bc Hz 158 ?_ ?_
   ·
    intro hb208 Hz; try simp only [QQ, Qax] at hb208
    refine wct Hz ?_
    replace Hz := Hz.oz [2, 3, 4, 5, 10, 19, 21, 36, 130, 134, 139, 145, 152, 158]
    refine zsr fun K26 hK26 => ?_
    refine goCh Hz (.loadBR m6 (i := 20) rfl rfl U33 rfl fct1 (by simp) (by dsimp only [List.drop, List.take] <;> rfl) .nil) fun Az Hz => ?_
    refine plz (stw Hz m6 22 fct1 fun w212 m212 _ => ?_)
    refine gz hK26 Hz (.assign rfl .nil) fun Az Hz => ?_
    refine rtd (retCT (fn := Tryz.f94) Hz m212 (i := 22) rfl rfl rfl rfl U33 rfl fct1 ?_)
    have m214 := m212.dat 23 rfl (m212.rd (i := 3) rfl)
    exact ⟨ne, hi, fl, ws, 33, _, _, rfl, by rw [doR, if_neg (by omega), if_neg (by omega), if_pos (by omega), takeR, if_neg (by simp_all), if_neg (by omega), if_pos (by omega)], m214.ren [(1, 1), (2, 2), (3, 3), (4, 4), (7, 23)] (by decide)⟩
   intro hb208 Hz; try simp only [QQ, Qax] at hb208
   refine wcf Hz ?_
   refine zss (hK23 _ _ ?_)
   refine wsk fun K27 hK27 => ?_
   replace Hz := Hz.oz [2, 3, 4, 5, 10, 19, 21, 36, 130, 134, 139, 145, 152, 158]
   refine zsr fun K28 hK28 => ?_
   refine goCh Hz (.fa 1 rfl U33 <| .lb m6 20 U3 rfl rfl rfl <| .fa 2 rfl U33 <| .lb m6 20 U3 rfl rfl rfl <| .fa 9 rfl U81 <| .lb m6 21 U40 rfl rfl rfl .nil) fun Az Hz => ?_
   refine plz (ecl Hz Tryz.func96 rfl (ritems_any _ _ items _ _ _ _ ((m6.rd (i := 4) rfl).any) hil) ?_)
   rintro e w228 ⟨ib, rfl, hib, hb228⟩
   have m229 := m6.later hb228
   refine ⟨_, rfl, ?_⟩; intro Az Hz
   refine gz hK28 Hz (.not rfl .nil) fun Az Hz => ?_
   refine bc Hz 167 ?_ ?_
   ·
    intro hb232 Hz; try simp only [QQ, Qax] at hb232
    refine wct Hz ?_
    replace Hz := Hz.oz [2, 3, 4, 5, 10, 19, 21, 36, 130, 134, 139, 145, 152, 158, 167]
    refine zsr fun K29 hK29 => ?_
    refine goCh Hz (.loadBR m229 (i := 20) rfl rfl U33 rfl fct1 (by simp) (by dsimp only [List.drop, List.take] <;> rfl) .nil) fun Az Hz => ?_
    refine plz (stw Hz m229 22 fct1 fun w236 m236 _ => ?_)
    refine gz hK29 Hz (.assign rfl .nil) fun Az Hz => ?_
    refine rtd (retCT (fn := Tryz.f94) Hz m236 (i := 22) rfl rfl rfl rfl U33 rfl fct1 ?_)
    have m238 := m236.dat 23 rfl (m236.rd (i := 3) rfl)
    exact ⟨ne, hi, fl, ws, 23, _, _, rfl, by rw [doR, if_neg (by omega), if_neg (by omega), if_pos (by omega), takeR, if_neg (by simp_all), if_neg (by omega), if_neg (by omega), show wrR bl sz ws items = (ws, 23) from by rw [wrR, if_neg (fun h => by have h9 := hib.2 h; simp_all)]]; rfl, m238.ren [(1, 1), (2, 2), (3, 3), (4, 4), (7, 23)] (by decide)⟩
   intro hb232 Hz; try simp only [QQ, Qax] at hb232
   refine wcf Hz ?_
   refine zss (hK27 _ _ ?_)
   replace Hz := Hz.oz [2, 3, 4, 5, 10, 19, 21, 36, 130, 134, 139, 145, 152, 158, 167]
   refine zsr fun K30 hK30 => ?_
   refine goCh Hz (.loadBR m229 (i := 20) rfl rfl U33 rfl fct1 (by simp) (by dsimp only [List.drop, List.take] <;> rfl) <| .fa 9 rfl U81 <| .lb m229 21 U40 rfl rfl rfl .nil) fun Az Hz => ?_
   refine plz (ecl Hz Tryz.func123 rfl (rwrite_fr _ _ _ _ _ _ _ _ _ place pins ws items _ _ _ _ _ _ _ _ _ hl hil hio (m229.into [(1, 1), (2, 2), (3, 3), (4, 4)] (by decide) rfl)) ?_)
   rintro e w246 ⟨p246, c246, rfl, hm246⟩
   have mx246 := m229.back hm246 [(1, 1), (2, 2), (3, 3), (4, 4), (23, 7)] (by decide); clear hm246 m229
   have m246 := mx246.oz [1, 2, 3, 4, 23, 20, 21, 22]
   refine ⟨_, rfl, ?_⟩; intro Az Hz
   refine plz (stw Hz m246 20 fct1 fun w248 m248 _ => ?_)
   refine znl (hK30 _ _ ?_)
   refine wp_region_lit ?_
   refine goCh Hz (.fa 6 rfl U33 <| .lb m248 20 U3 rfl rfl rfl <| .add rfl rfl (r := ne + 1) (IntWalk.i64_in _ (by omega)) <| .fa 6 rfl U33 .nil) fun Az Hz => ?_
   refine plz (st1 Hz m248 20 fct23 fun w253 m253 _ => ?_)
   refine znl (hK17 _ _ ?_)
   replace Hz := Hz.oz [2, 4, 5, 10, 21, 36, 130, 134, 139, 145, 152, 158, 167]
   refine zsr fun K31 hK31 => ?_
   refine goCh Hz (.loadBR m253 (i := 20) rfl rfl U33 rfl fct1 (by simp) (by dsimp only [List.drop, List.take] <;> rfl) .nil) fun Az Hz => ?_
   refine plz (stw Hz m253 22 fct1 fun w257 m257 _ => ?_)
   refine gz hK31 Hz (.assign rfl .nil) fun Az Hz => ?_
   refine rtd (retCT (fn := Tryz.f94) Hz m257 (i := 22) rfl rfl rfl rfl U33 rfl fct1 ?_)
   exact ⟨(ne + 1), hi, fl, (ws ++ [((ws.length : Int) + 1, items)]), 0, _, _, rfl, by rw [doR, if_neg (by omega), if_neg (by omega), if_pos (by omega), takeR, if_neg (by simp_all), if_neg (by omega), if_neg (by omega), show wrR bl sz ws items = ((ws ++ [((ws.length : Int) + 1, items)]), 0) from by rw [wrR, if_pos (hib.1 (by simp_all))]]; rfl, m257.ren [(1, 1), (2, 2), (3, 3), (4, 4), (7, 23)] (by decide)⟩
  intro hb162 Hz; try simp only [QQ, Qax] at hb162
  refine gz hK21 Hz (.sk <| .sk <| .sk <| .sk <| .sk <| .pickF rfl rfl <| .nil) fun Az Hz => ?_
  refine wcf Hz ?_
  refine zss (hK20 _ _ ?_)
  refine wsk fun K32 hK32 => ?_
  replace Hz := Hz.oz [2, 3, 4, 5, 10, 19, 21, 36, 130, 134, 139, 145]
  refine zsr fun K33 hK33 => ?_
  refine goCh Hz (.fa 8 rfl U81 <| .lb m6 21 U3 rfl rfl rfl <| .fa 6 rfl U33 <| .lb m6 20 U3 rfl rfl rfl <| .neq rfl rfl <| .move rfl .nil) fun Az Hz => ?_
  refine bc Hz 152 ?_ ?_
  ·
   intro hb278 Hz; try simp only [QQ, Qax] at hb278
   refine gz hK33 Hz (.sk <| .sk <| .sk <| .sk <| .sk <| .pickT rfl rfl <| .nil) fun Az Hz => ?_
   refine wct Hz ?_
   replace Hz := Hz.oz [2, 3, 4, 5, 10, 19, 21, 36, 130, 134, 139, 145, 152, 158]
   refine zsr fun K34 hK34 => ?_
   refine goCh Hz (.loadBR m6 (i := 20) rfl rfl U33 rfl fct1 (by simp) (by dsimp only [List.drop, List.take] <;> rfl) .nil) fun Az Hz => ?_
   refine plz (stw Hz m6 22 fct1 fun w288 m288 _ => ?_)
   refine gz hK34 Hz (.assign rfl .nil) fun Az Hz => ?_
   refine rtd (retCT (fn := Tryz.f94) Hz m288 (i := 22) rfl rfl rfl rfl U33 rfl fct1 ?_)
   have m290 := m288.dat 23 rfl (m288.rd (i := 3) rfl)
   exact ⟨ne, hi, fl, ws, 33, _, _, rfl, by rw [doR, if_neg (by omega), if_neg (by omega), if_pos (by omega), takeR, if_neg (by simp_all), if_neg (by omega), if_pos (by omega)], m290.ren [(1, 1), (2, 2), (3, 3), (4, 4), (7, 23)] (by decide)⟩
  intro hb278 Hz; try simp only [QQ, Qax] at hb278
  refine gz hK33 Hz (.faZ 6 rfl U33 <| .loadB1Z m6 (i := 20) rfl rfl rfl U3 rfl <| .faZ 5 rfl U33 <| .loadB1Z m6 (i := 20) rfl rfl rfl U3 rfl <| .eqlZ rfl rfl <| .pickF rfl rfl <| .nil) fun Az Hz => ?_
  refine bc Hz 158 ?_ ?_
  ·
   intro hb297 Hz; try simp only [QQ, Qax] at hb297
   refine wct Hz ?_
   replace Hz := Hz.oz [2, 3, 4, 5, 10, 19, 21, 36, 130, 134, 139, 145, 152, 158]
   refine zsr fun K35 hK35 => ?_
   refine goCh Hz (.loadBR m6 (i := 20) rfl rfl U33 rfl fct1 (by simp) (by dsimp only [List.drop, List.take] <;> rfl) .nil) fun Az Hz => ?_
   refine plz (stw Hz m6 22 fct1 fun w301 m301 _ => ?_)
   refine gz hK35 Hz (.assign rfl .nil) fun Az Hz => ?_
   refine rtd (retCT (fn := Tryz.f94) Hz m301 (i := 22) rfl rfl rfl rfl U33 rfl fct1 ?_)
   have m303 := m301.dat 23 rfl (m301.rd (i := 3) rfl)
   exact ⟨ne, hi, fl, ws, 33, _, _, rfl, by rw [doR, if_neg (by omega), if_neg (by omega), if_pos (by omega), takeR, if_neg (by simp_all), if_neg (by omega), if_pos (by omega)], m303.ren [(1, 1), (2, 2), (3, 3), (4, 4), (7, 23)] (by decide)⟩
  intro hb297 Hz; try simp only [QQ, Qax] at hb297
  refine wcf Hz ?_
  refine zss (hK32 _ _ ?_)
  refine wsk fun K36 hK36 => ?_
  replace Hz := Hz.oz [2, 3, 4, 5, 10, 19, 21, 36, 130, 134, 139, 145, 152, 158]
  refine zsr fun K37 hK37 => ?_
  refine goCh Hz (.fa 1 rfl U33 <| .lb m6 20 U3 rfl rfl rfl <| .fa 2 rfl U33 <| .lb m6 20 U3 rfl rfl rfl <| .fa 9 rfl U81 <| .lb m6 21 U40 rfl rfl rfl .nil) fun Az Hz => ?_
  refine plz (ecl Hz Tryz.func96 rfl (ritems_any _ _ items _ _ _ _ ((m6.rd (i := 4) rfl).any) hil) ?_)
  rintro e w317 ⟨ib, rfl, hib, hb317⟩
  have m318 := m6.later hb317
  refine ⟨_, rfl, ?_⟩; intro Az Hz
  refine gz hK37 Hz (.not rfl .nil) fun Az Hz => ?_
  refine bc Hz 167 ?_ ?_
  ·
   intro hb321 Hz; try simp only [QQ, Qax] at hb321
   refine wct Hz ?_
   replace Hz := Hz.oz [2, 3, 4, 5, 10, 19, 21, 36, 130, 134, 139, 145, 152, 158, 167]
   refine zsr fun K38 hK38 => ?_
   refine goCh Hz (.loadBR m318 (i := 20) rfl rfl U33 rfl fct1 (by simp) (by dsimp only [List.drop, List.take] <;> rfl) .nil) fun Az Hz => ?_
   refine plz (stw Hz m318 22 fct1 fun w325 m325 _ => ?_)
   refine gz hK38 Hz (.assign rfl .nil) fun Az Hz => ?_
   refine rtd (retCT (fn := Tryz.f94) Hz m325 (i := 22) rfl rfl rfl rfl U33 rfl fct1 ?_)
   have m327 := m325.dat 23 rfl (m325.rd (i := 3) rfl)
   exact ⟨ne, hi, fl, ws, 23, _, _, rfl, by rw [doR, if_neg (by omega), if_neg (by omega), if_pos (by omega), takeR, if_neg (by simp_all), if_neg (by omega), if_neg (by omega), show wrR bl sz ws items = (ws, 23) from by rw [wrR, if_neg (fun h => by have h9 := hib.2 h; simp_all)]]; rfl, m327.ren [(1, 1), (2, 2), (3, 3), (4, 4), (7, 23)] (by decide)⟩
  intro hb321 Hz; try simp only [QQ, Qax] at hb321
  refine wcf Hz ?_
  refine zss (hK36 _ _ ?_)
  replace Hz := Hz.oz [2, 3, 4, 5, 10, 19, 21, 36, 130, 134, 139, 145, 152, 158, 167]
  refine zsr fun K39 hK39 => ?_
  refine goCh Hz (.loadBR m318 (i := 20) rfl rfl U33 rfl fct1 (by simp) (by dsimp only [List.drop, List.take] <;> rfl) <| .fa 9 rfl U81 <| .lb m318 21 U40 rfl rfl rfl .nil) fun Az Hz => ?_
  refine plz (ecl Hz Tryz.func123 rfl (rwrite_fr _ _ _ _ _ _ _ _ _ place pins ws items _ _ _ _ _ _ _ _ _ hl hil hio (m318.into [(1, 1), (2, 2), (3, 3), (4, 4)] (by decide) rfl)) ?_)
  rintro e w335 ⟨p335, c335, rfl, hm335⟩
  have mx335 := m318.back hm335 [(1, 1), (2, 2), (3, 3), (4, 4), (23, 7)] (by decide); clear hm335 m318
  have m335 := mx335.oz [1, 2, 3, 4, 23, 20, 21, 22]
  refine ⟨_, rfl, ?_⟩; intro Az Hz
  refine plz (stw Hz m335 20 fct1 fun w337 m337 _ => ?_)
  refine znl (hK39 _ _ ?_)
  refine wp_region_lit ?_
  refine goCh Hz (.fa 6 rfl U33 <| .lb m337 20 U3 rfl rfl rfl <| .add rfl rfl (r := ne + 1) (IntWalk.i64_in _ (by omega)) <| .fa 6 rfl U33 .nil) fun Az Hz => ?_
  refine plz (st1 Hz m337 20 fct23 fun w342 m342 _ => ?_)
  refine znl (hK17 _ _ ?_)
  replace Hz := Hz.oz [2, 4, 5, 10, 21, 36, 130, 134, 139, 145, 152, 158, 167]
  refine zsr fun K40 hK40 => ?_
  refine goCh Hz (.loadBR m342 (i := 20) rfl rfl U33 rfl fct1 (by simp) (by dsimp only [List.drop, List.take] <;> rfl) .nil) fun Az Hz => ?_
  refine plz (stw Hz m342 22 fct1 fun w346 m346 _ => ?_)
  refine gz hK40 Hz (.assign rfl .nil) fun Az Hz => ?_
  refine rtd (retCT (fn := Tryz.f94) Hz m346 (i := 22) rfl rfl rfl rfl U33 rfl fct1 ?_)
  exact ⟨(ne + 1), hi, fl, (ws ++ [((ws.length : Int) + 1, items)]), 0, _, _, rfl, by rw [doR, if_neg (by omega), if_neg (by omega), if_pos (by omega), takeR, if_neg (by simp_all), if_neg (by omega), if_neg (by omega), show wrR bl sz ws items = ((ws ++ [((ws.length : Int) + 1, items)]), 0) from by rw [wrR, if_pos (hib.1 (by simp_all))]]; rfl, m346.ren [(1, 1), (2, 2), (3, 3), (4, 4), (7, 23)] (by decide)⟩
 intro hb144 Hz; try simp only [QQ, Qax] at hb144
 refine wcf Hz ?_
 refine regS Hz (.eql rfl rfl <| .assign rfl .nil) fun Az Hz => ?_
 refine bc Hz 177 ?_ ?_
 ·
  intro hb350 Hz; try simp only [QQ, Qax] at hb350
  refine wct Hz ?_
  refine wsk fun K41 hK41 => ?_
  refine zsr fun K42 hK42 => ?_
  refine goCh Hz (.fa 7 rfl U33 <| .lb m6 20 U4 rfl rfl rfl <| .not rfl <| .move rfl .nil) fun Az Hz => ?_
  refine bc Hz 182 ?_ ?_
  ·
   intro hb359 Hz; try simp only [QQ, Qax] at hb359
   refine gz hK42 Hz (.sk <| .sk <| .sk <| .sk <| .sk <| .pickT rfl rfl <| .nil) fun Az Hz => ?_
   refine wct Hz ?_
   replace Hz := Hz.oz [2, 4, 5, 10, 19, 21, 36, 130, 177, 182, 188]
   refine zsr fun K43 hK43 => ?_
   refine goCh Hz (.loadBR m6 (i := 20) rfl rfl U33 rfl fct1 (by simp) (by dsimp only [List.drop, List.take] <;> rfl) .nil) fun Az Hz => ?_
   refine plz (stw Hz m6 22 fct1 fun w369 m369 _ => ?_)
   refine gz hK43 Hz (.assign rfl .nil) fun Az Hz => ?_
   refine rtd (retCT (fn := Tryz.f94) Hz m369 (i := 22) rfl rfl rfl rfl U33 rfl fct1 ?_)
   have m371 := m369.dat 23 rfl (m369.rd (i := 3) rfl)
   exact ⟨ne, hi, fl, ws, 33, _, _, rfl, by rw [doR, if_neg (by omega), if_neg (by omega), if_neg (by omega), if_pos (by omega), publishR, if_pos (by first | (left; simp_all; done) | (right; assumption) | omega)], m371.ren [(1, 1), (2, 2), (3, 3), (4, 4), (7, 23)] (by decide)⟩
  intro hb359 Hz; try simp only [QQ, Qax] at hb359
  refine gz hK42 Hz (.faZ 6 rfl U33 <| .loadB1Z m6 (i := 20) rfl rfl rfl U3 rfl <| .faZ 5 rfl U33 <| .loadB1Z m6 (i := 20) rfl rfl rfl U3 rfl <| .neqZ rfl rfl <| .pickF rfl rfl <| .nil) fun Az Hz => ?_
  refine bc Hz 188 ?_ ?_
  ·
   intro hb378 Hz; try simp only [QQ, Qax] at hb378
   refine wct Hz ?_
   replace Hz := Hz.oz [2, 4, 5, 10, 19, 21, 36, 130, 177, 182, 188]
   refine zsr fun K44 hK44 => ?_
   refine goCh Hz (.loadBR m6 (i := 20) rfl rfl U33 rfl fct1 (by simp) (by dsimp only [List.drop, List.take] <;> rfl) .nil) fun Az Hz => ?_
   refine plz (stw Hz m6 22 fct1 fun w382 m382 _ => ?_)
   refine gz hK44 Hz (.assign rfl .nil) fun Az Hz => ?_
   refine rtd (retCT (fn := Tryz.f94) Hz m382 (i := 22) rfl rfl rfl rfl U33 rfl fct1 ?_)
   have m384 := m382.dat 23 rfl (m382.rd (i := 3) rfl)
   exact ⟨ne, hi, fl, ws, 33, _, _, rfl, by rw [doR, if_neg (by omega), if_neg (by omega), if_neg (by omega), if_pos (by omega), publishR, if_pos (by first | (left; simp_all; done) | (right; assumption) | omega)], m384.ren [(1, 1), (2, 2), (3, 3), (4, 4), (7, 23)] (by decide)⟩
  intro hb378 Hz; try simp only [QQ, Qax] at hb378
  refine wcf Hz ?_
  refine zss (hK41 _ _ ?_)
  replace Hz := Hz.oz [2, 4, 5, 10, 19, 21, 36, 130, 177, 182, 188]
  refine wp_region_lit ?_
  refine goCh Hz (.loadBR m6 (i := 20) rfl rfl U33 rfl fct1 (by simp) (by dsimp only [List.drop, List.take] <;> rfl) .nil) fun Az Hz => ?_
  refine wpList_plain rfl (fun K hK => ?_)
  refine e_call Hz Tryz.func13 rfl rfl rfl rfl (rlen_any _ _ _ _ _ _ _ _ _ _ _ _ _ _ _ _ _ _) ?_
  rintro e w387 ⟨rfl, hb387⟩
  rw [List.length_map]
  have m388 := m6.later hb387
  refine ⟨_, rfl, ?_⟩; intro Az Hz
  refine hK _ _ ?_; clear hK
  refine goCh Hz (.fieldAddr (off := 7) rfl U33 rfl (s := 0) (by kernel_rfl) rfl .nil) fun Az Hz => ?_
  refine plz (st1 Hz m388 20 fct29 fun w391 m391 _ => ?_)
  refine goCh Hz (.fieldAddr (off := 8) rfl U33 rfl (s := 0) (by kernel_rfl) rfl .nil) fun Az Hz => ?_
  refine plz (st1 Hz m391 20 fct10 fun w393 m393 _ => ?_)
  refine znl (hK17 _ _ ?_)
  refine zsr fun K45 hK45 => ?_
  refine goCh Hz (.loadBR m393 (i := 20) rfl rfl U33 rfl fct1 (by simp) (by dsimp only [List.drop, List.take] <;> rfl) .nil) fun Az Hz => ?_
  refine plz (stw Hz m393 22 fct1 fun w396 m396 _ => ?_)
  refine gz hK45 Hz (.assign rfl .nil) fun Az Hz => ?_
  refine rtd (retCT (fn := Tryz.f94) Hz m396 (i := 22) rfl rfl rfl rfl U33 rfl fct1 ?_)
  have m398 := m396.dat 23 rfl (m396.rd (i := 3) rfl)
  exact ⟨ne, false, ws.length, ws, 0, _, _, rfl, by rw [doR, if_neg (by omega), if_neg (by omega), if_neg (by omega), if_pos (by omega), publishR, if_neg (by rintro (h | h) <;> simp_all)], m398.ren [(1, 1), (2, 2), (3, 3), (4, 4), (7, 23)] (by decide)⟩
 intro hb350 Hz; try simp only [QQ, Qax] at hb350
 refine wcf Hz ?_
 refine regS Hz (.eql rfl rfl <| .assign rfl .nil) fun Az Hz => ?_
 refine bc Hz 194 ?_ ?_
 ·
  intro hb401 Hz; try simp only [QQ, Qax] at hb401
  refine wct Hz ?_
  refine zss (hK17 _ _ ?_)
  replace Hz := Hz.oz [2, 4, 5, 10, 21, 36, 130, 177, 194]
  refine zsr fun K46 hK46 => ?_
  refine goCh Hz (.loadBR m6 (i := 20) rfl rfl U33 rfl fct1 (by simp) (by dsimp only [List.drop, List.take] <;> rfl) .nil) fun Az Hz => ?_
  refine plz (stw Hz m6 22 fct1 fun w405 m405 _ => ?_)
  refine gz hK46 Hz (.assign rfl .nil) fun Az Hz => ?_
  refine rtd (retCT (fn := Tryz.f94) Hz m405 (i := 22) rfl rfl rfl rfl U33 rfl fct1 ?_)
  have m407 := m405.dat 23 rfl (m405.rd (i := 3) rfl)
  exact ⟨ne, hi, fl, ws, 0, _, _, rfl, by rw [doR, if_neg (by omega), if_neg (by omega), if_neg (by omega), if_neg (by omega), if_pos (by omega)], m407.ren [(1, 1), (2, 2), (3, 3), (4, 4), (7, 23)] (by decide)⟩
 intro hb401 Hz; try simp only [QQ, Qax] at hb401
 refine wcf Hz ?_
 replace Hz := Hz.oz [2, 4, 5, 10, 21, 36, 130, 177, 194]
 refine zsr fun K47 hK47 => ?_
 refine goCh Hz (.loadBR m6 (i := 20) rfl rfl U33 rfl fct1 (by simp) (by dsimp only [List.drop, List.take] <;> rfl) .nil) fun Az Hz => ?_
 refine plz (stw Hz m6 22 fct1 fun w411 m411 _ => ?_)
 refine gz hK47 Hz (.assign rfl .nil) fun Az Hz => ?_
 refine rtd (retCT (fn := Tryz.f94) Hz m411 (i := 22) rfl rfl rfl rfl U33 rfl fct1 ?_)
 have m413 := m411.dat 23 rfl (m411.rd (i := 3) rfl)
 exact ⟨ne, hi, fl, ws, 23, _, _, rfl, by rw [doR, if_neg (by omega), if_neg (by omega), if_neg (by omega), if_neg (by omega), if_neg (by omega)], m413.ren [(1, 1), (2, 2), (3, 3), (4, 4), (7, 23)] (by decide)⟩
theorem rdone4 (X : Cx) (vo bl sz pe to ne fl : Int) (hi : Bool) (place pins : List Int) (ws : List (Int × List (Int × List Int))) (pp pn pw : Option Addr) (cp cn9 cw : Nat) (v1 v2 v3 v4 v5 at0 v6 : Int) (q1 : Option Addr) (n1 c1 : Nat) (q2 : Option Addr) (n2 c2 : Nat) (w0 : World) (hp : pins.length ≤ 900000) (hsp : pins.Pairwise (· ≤ ·)) (m0 : MemOk X w0 [(1, .dat (.slice pp place.length cp) (.ns .i64 place)), (2, .dat (.slice pn pins.length cn9) (.ns .i64 pins)), (3, .dat (.slice pw (ws.map wrD).length cw) (.l 2 (ws.map wrD)))] w0) :
   Calls Tryz.prog 94 #[.agg #[.int .i64 vo, .int .i64 bl, .int .i64 sz, .int .i64 pe, .slice pp place.length cp, .int .i64 to, .int .i64 ne, .bool hi, .int .i64 fl, .slice pn pins.length cn9, .slice pw (ws.map wrD).length cw], .agg #[.int .i64 4, .int .i64 v1, .int .i64 v2, .int .i64 v3, .int .i64 v4, .slice q1 n1 c1, .int .i64 v5, .int .i64 at0, .int .i64 v6, .slice q2 n2 c2]] w0 fun e w' => ∃ (pins' : List Int) (e9 : Int) (p2' : Option Addr) (d2' : Nat), e = .returned (.tuple #[.agg #[.int .i64 vo, .int .i64 bl, .int .i64 sz, .int .i64 pe, .slice pp place.length cp, .int .i64 to, .int .i64 ne, .bool hi, .int .i64 fl, .slice p2' pins'.length d2', .slice pw (ws.map wrD).length cw], .int .i64 e9]) ∧ pinR hi fl at0 ws.length pins = (pins', e9) ∧ MemOk X w0 [(1, .dat (.slice pp place.length cp) (.ns .i64 place)), (2, .dat (.slice pn pins.length cn9) (.ns .i64 pins)), (3, .dat (.slice pw (ws.map wrD).length cw) (.l 2 (ws.map wrD))), (6, .dat (.slice p2' pins'.length d2') (.ns .i64 pins'))] w' := by
 refine ent2 Tryz.func94 rfl Tryz.ntmps94 fun Az Hz => ?_
 refine zsr fun K0 hK0 => ?_
 refine plz (e_box Hz m0 20 (cs := [_, _, _, _, _, _, _, _, _, _, _]) rfl rfl rfl fun g1 Az w2 Hz m2 _ _ => ?_)
 refine plz (e_box Hz m2 21 (cs := [_, _, _, _, _, _, _, _, _, _]) rfl rfl rfl fun g3 Az w4 Hz m4 _ _ => ?_)
 refine plz (e_alloc Hz m4 22 fct2 rfl fun g5 Az w6 Hz m6 _ _ => ?_)
 refine gz hK0 Hz (.assign rfl .nil) fun Az Hz => ?_
 refine wsk fun K1 hK1 => ?_
 refine regS Hz (.fa 0 rfl U81 <| .lb m6 21 U3 rfl rfl rfl .nil) fun Az Hz => ?_
 refine wp_block ?_
 refine wsk fun K2 hK2 => ?_
 refine regS Hz (.eql rfl rfl <| .assign rfl .nil) fun Az Hz => ?_
 refine bc Hz 10 ?_ ?_
 · intro hb _; exact absurd hb (by simp)
 clear Hz; intro _ Hz
 refine wcf Hz ?_
 refine regS Hz (.eql rfl rfl <| .assign rfl .nil) fun Az Hz => ?_
 refine bc Hz 10 ?_ ?_
 · intro hb _; exact absurd hb (by simp)
 clear Hz; intro _ Hz
 refine wcf Hz ?_
 refine regS Hz (.eql rfl rfl <| .assign rfl .nil) fun Az Hz => ?_
 refine bc Hz 10 ?_ ?_
 rotate_left
 · intro hb _; exact absurd hb (by simp)
 clear Hz; intro _ Hz
 refine wct Hz ?_
 refine zss (hK2 _ _ ?_)
 refine wct Hz ?_
 replace Hz := Hz.oz [2, 3, 4, 5]
 refine regS Hz (.fa 7 rfl U33 <| .lb m6 20 U4 rfl rfl rfl .nil) fun Az Hz => ?_
 refine bc Hz 16 ?_ ?_
 ·
  intro hb22 Hz; try simp only [QQ, Qax] at hb22
  refine wct Hz ?_
  refine zsr fun K3 hK3 => ?_
  refine goCh Hz (.loadBR m6 (i := 20) rfl rfl U33 rfl fct1 (by simp) (by dsimp only [List.drop, List.take] <;> rfl) .nil) fun Az Hz => ?_
  refine plz (stw Hz m6 22 fct1 fun w25 m25 _ => ?_)
  refine gz hK3 Hz (.assign rfl .nil) fun Az Hz => ?_
  refine rtd (retCT (fn := Tryz.f94) Hz m25 (i := 22) rfl rfl rfl rfl U33 rfl fct1 ?_)
  have m27 := m25.dat 23 rfl (m25.rd (i := 2) rfl)
  exact ⟨pins, 28, _, _, rfl, by rw [pinR, show reachR hi fl at0 ws.length = 28 from by rw [reachR, if_pos (by assumption)]]; rfl, m27.ren [(1, 1), (2, 2), (3, 3), (6, 23)] (by decide)⟩
 intro hb22 Hz; try simp only [QQ, Qax] at hb22
 refine wcf Hz ?_
 refine zss (hK1 _ _ ?_)
 refine wsk fun K4 hK4 => ?_
 refine regS Hz (.fa 0 rfl U81 <| .lb m6 21 U3 rfl rfl rfl .nil) fun Az Hz => ?_
 refine wp_block ?_
 refine regS Hz (.eql rfl rfl <| .assign rfl .nil) fun Az Hz => ?_
 refine bc Hz 21 ?_ ?_
 · intro hb _; exact absurd hb (by simp)
 clear Hz; intro _ Hz
 refine wcf Hz ?_
 refine regS Hz (.eql rfl rfl <| .assign rfl .nil) fun Az Hz => ?_
 refine bc Hz 36 ?_ ?_
 · intro hb _; exact absurd hb (by simp)
 clear Hz; intro _ Hz
 refine wcf Hz ?_
 replace Hz := Hz.oz [2, 3, 4, 5, 16, 19]
 refine regS Hz (.eql rfl rfl <| .assign rfl .nil) fun Az Hz => ?_
 refine bc Hz 53 ?_ ?_
 rotate_left
 · intro hb _; exact absurd hb (by simp)
 clear Hz; intro _ Hz
 refine wct Hz ?_
 refine wsk fun K5 hK5 => ?_
 refine regS Hz (.fa 7 rfl U81 <| .lb m6 21 U2 rfl rfl rfl <| .fa 8 rfl U33 <| .lb m6 20 U2 rfl rfl rfl <| .lss rfl rfl .nil) fun Az Hz => ?_
 refine bc Hz 59 ?_ ?_
 ·
  intro hb45 Hz; try simp only [QQ, Qax] at hb45
  refine wct Hz ?_
  replace Hz := Hz.oz [2, 3, 4, 5, 16, 19, 59]
  refine zsr fun K6 hK6 => ?_
  refine goCh Hz (.loadBR m6 (i := 20) rfl rfl U33 rfl fct1 (by simp) (by dsimp only [List.drop, List.take] <;> rfl) .nil) fun Az Hz => ?_
  refine plz (stw Hz m6 22 fct1 fun w49 m49 _ => ?_)
  refine gz hK6 Hz (.assign rfl .nil) fun Az Hz => ?_
  refine rtd (retCT (fn := Tryz.f94) Hz m49 (i := 22) rfl rfl rfl rfl U33 rfl fct1 ?_)
  have m51 := m49.dat 23 rfl (m49.rd (i := 2) rfl)
  exact ⟨pins, 30, _, _, rfl, by rw [pinR, show reachR hi fl at0 ws.length = 30 from by rw [reachR, if_neg (by simp_all), if_pos (by omega)]]; rfl, m51.ren [(1, 1), (2, 2), (3, 3), (6, 23)] (by decide)⟩
 intro hb45 Hz; try simp only [QQ, Qax] at hb45
 refine wcf Hz ?_
 refine zss (hK5 _ _ ?_)
 refine wsk fun K7 hK7 => ?_
 refine wsk fun K8 hK8 => ?_
 replace Hz := Hz.oz [2, 3, 4, 5, 16, 19, 59]
 have m53 := m6.oz [1, 2, 3, 20, 21, 22]
 refine region_p 5 (B := [(1, _), (2, _), (3, _), (20, _), (21, _), (22, _)]) (m53.to ⟨il, il, il, il, il, il, trivial⟩) m53 (by kernel_rfl) (fun w54 hP54 m54 => ?_); clear m53
 refine goR hP54 [0, 1, 2] [1, 2] 3 0 7 Hz (m54.to ⟨il, il, il, il, il, il, trivial⟩) (.fa 7 rfl U81 <| .lb hh 21 U2 rfl rfl rfl <| .loadBR hh (i := 20) rfl rfl U33 rfl fct1 (by simp) (by dsimp only [List.drop, List.take] <;> rfl) .nil) fun Az Hz => ?_
 refine stepE_only 3 rfl (by kernel_rfl) rfl (fun K hK => ?_)
 refine e_call Hz Tryz.func13 rfl rfl rfl rfl (rlen_any _ _ _ _ _ _ _ _ _ _ _ _ _ _ _ _ _ _) ?_
 rintro e w58 ⟨rfl, hb58⟩
 rw [List.length_map]
 have m59 := m54.later hb58
 refine ⟨_, rfl, ?_⟩; intro Az Hz
 refine hK _ _ (m59.to ⟨il, il, il, il, il, il, trivial⟩) ?_; clear hK K
 refine goA hP54 [4] 1 15 31 Hz (m59.to ⟨il, il, il, il, il, il, trivial⟩) (.gtr rfl rfl .nil) fun Az Hz => ?_
 refine wpAnyE_done (by kernel_rfl) ?_ _
 refine hK8 _ _ ?_
 refine bc Hz 65 ?_ ?_
 ·
  intro hb62 Hz; try simp only [QQ, Qax] at hb62
  refine wct Hz ?_
  refine zsr fun K9 hK9 => ?_
  refine goCh Hz (.loadBR m59 (i := 20) rfl rfl U33 rfl fct1 (by simp) (by dsimp only [List.drop, List.take] <;> rfl) .nil) fun Az Hz => ?_
  refine plz (stw Hz m59 22 fct1 fun w65 m65 _ => ?_)
  refine gz hK9 Hz (.assign rfl .nil) fun Az Hz => ?_
  refine rtd (retCT (fn := Tryz.f94) Hz m65 (i := 22) rfl rfl rfl rfl U33 rfl fct1 ?_)
  have m67 := m65.dat 23 rfl (m65.rd (i := 2) rfl)
  exact ⟨pins, 31, _, _, rfl, by rw [pinR, show reachR hi fl at0 ws.length = 31 from by rw [reachR, if_neg (by simp_all), if_neg (by omega), if_pos (by omega)]]; rfl, m67.ren [(1, 1), (2, 2), (3, 3), (6, 23)] (by decide)⟩
 intro hb62 Hz; try simp only [QQ, Qax] at hb62
 refine wcf Hz ?_
 refine zss (hK7 _ _ ?_)
 refine regS Hz (.assign rfl .nil) fun Az Hz => ?_
 refine wsk fun K10 hK10 => ?_
 refine wp_block ?_
 refine wp_loop_ghost (fun g a w => ∃ (k B8 B9 B10 : Nat), k ≤ pins.length ∧ g = pins.length - k ∧ (∀ j, j < k → pins.getD j 0 ≤ at0) ∧ Has 197 [(2, .pointer (some ⟨B8, 0, none⟩)), (3, .pointer (some ⟨B9, 0, none⟩)), (4, .pointer (some ⟨B10, 0, none⟩)), (6, .int .i64 k)] a ∧ MemOk X w0 [(1, .dat (.slice pp place.length cp) (.ns .i64 place)), (2, .dat (.slice pn pins.length cn9) (.ns .i64 pins)), (3, .dat (.slice pw (ws.map wrD).length cw) (.l 2 (ws.map wrD))), (8, .box B8 33 [.int .i64 vo, .int .i64 bl, .int .i64 sz, .int .i64 pe, .slice pp place.length cp, .int .i64 to, .int .i64 ne, .bool hi, .int .i64 fl, .slice pn pins.length cn9, .slice pw (ws.map wrD).length cw]), (9, .box B9 81 [.int .i64 4, .int .i64 v1, .int .i64 v2, .int .i64 v3, .int .i64 v4, .slice q1 n1 c1, .int .i64 v5, .int .i64 at0, .int .i64 v6, .slice q2 n2 c2]), (10, .box B10 33 [.int .i64 0, .int .i64 0, .int .i64 0, .int .i64 0, .slice none 0 0, .int .i64 0, .int .i64 0, .bool false, .int .i64 0, .slice none 0 0, .slice none 0 0])] w) (pins.length) ?_ ?_
 · exact ⟨0, _, _, _, Nat.zero_le _, rfl, (fun j hj => by omega), Hz.only [2, 3, 4, 6], m59.ren [(1, 1), (2, 2), (3, 3), (8, 20), (9, 21), (10, 22)] (by decide)⟩
 clear Hz m59
 rintro g Az w69 ⟨k, B8, B9, B10, hkl, hg, hall, Hz, m69⟩
 refine wsk fun K11 hK11 => ?_
 refine wsk fun K12 hK12 => ?_
 by_cases hk : k < pins.length
 ·
  obtain ⟨b70, o70, hp70, m70⟩ := m69.openN (i := 2) rfl (k) hk 100 rfl
  revert Hz
  cases hp70
  intro Hz
  have m71 := m70.oz [1, 2, 3, 8, 9, 10, 100]
  refine region_p 15 (B := [(1, _), (2, _), (3, _), (8, _), (9, _), (10, _), (100, _)]) (m71.to ⟨il, il, il, il, il, il, il, trivial⟩) m71 (by kernel_rfl) (fun w72 hP72 m72 => ?_); clear m71
  refine goR hP72 [0, 1, 2, 3, 4, 5] [2] 6 0 63 Hz (m72.to ⟨il, il, il, il, il, il, il, trivial⟩) (.move rfl <| .fa 9 rfl U33 <| .lb hh 8 U30 rfl rfl rfl <| .len rfl U30 <| .lss rfl rfl <| .move rfl .nil) fun Az Hz => ?_
  refine bc Hz 72 ?_ ?_
  rotate_left
  · intro hb _; exact absurd hb (by simp; omega)
  clear Hz; intro _ Hz
  refine goR hP72 [6, 7, 8, 9, 10, 11, 12, 13, 14] [7, 10, 12] 9 63 32767 Hz (m72.to ⟨il, il, il, il, il, il, il, trivial⟩) (.fa 9 rfl U33 <| .lb hh 8 U30 rfl rfl rfl <| .move rfl <| .p (fun _ _ h_ => y_idx h_ rfl rfl U30 fct10 (k) rfl hk) <| .loadC0 hh (i := 100) rfl rfl U2 rfl <| .fa 7 rfl U81 <| .lb hh 9 U2 rfl rfl rfl <| .leq rfl rfl <| .pickT rfl rfl .nil) fun Az Hz => ?_
  refine wpAnyE_done (by kernel_rfl) ?_ _
  refine hK12 _ _ ?_
  refine bc Hz 81 ?_ ?_
  ·
   intro hb89 Hz; try simp only [QQ, Qax] at hb89
   refine wct Hz ?_
   refine zss (hK11 _ _ ?_)
   refine wp_block ?_
   replace Hz := Hz.oz [2, 3, 4, 6, 72, 81]
   refine wp_region_lit ?_
   refine goCh Hz (.move rfl <| .inc (k + 1) <| .assign rfl .nil) fun Az Hz => ?_
   refine wpList_nil ?_
   show ∃ n', n' < _ ∧ _
   exact ⟨pins.length - (k + 1), by omega, k + 1, _, _, _, by omega, rfl, le_snoc hall (by omega), Hz.only [2, 3, 4, 6], m72.only [1, 2, 3, 8, 9, 10]⟩
  intro hb89 Hz; try simp only [QQ, Qax] at hb89
  refine wcf Hz ?_
  refine wp_exit ?_
  refine hK10 _ _ ?_
  replace Hz := Hz.oz [2, 3, 4, 6, 72, 81]
  have m95 := m72.oz [1, 2, 3, 8, 9, 10, 100]
  refine region_p 15 (B := [(1, _), (2, _), (3, _), (8, _), (9, _), (10, _), (100, _)]) (m95.to ⟨il, il, il, il, il, il, il, trivial⟩) m95 (by kernel_rfl) (fun w96 hP96 m96 => ?_); clear m95
  refine goR hP96 [0, 1, 2] [1] 3 0 7 Hz (m96.to ⟨il, il, il, il, il, il, il, trivial⟩) (.fa 9 rfl U33 <| .lb hh 8 U30 rfl rfl rfl <| .move rfl .nil) fun Az Hz => ?_
  have hcap100 := (m96.rd (i := 2) rfl).ns_out.cap
  have m100 := m96.takeN (i := 2) rfl (k) hkl 101 rfl
  refine goR hP96 [3, 5, 6, 9, 10, 11] [6, 10] 6 7 3695 Hz (m100.to ⟨il, il, il, il, il, il, il, trivial⟩) (.p (fun _ _ h_ => y_sliceHn h_ (k) rfl rfl U30 fct10 rfl (Nat.le_trans hkl hcap100.1)) <| .fa 7 rfl U81 <| .lb hh 9 U2 rfl rfl rfl <| .fa 9 rfl U33 <| .lb hh 8 U30 rfl rfl rfl <| .move rfl .nil) fun Az Hz => ?_
  have m107 := m100.dropN (i := 2) rfl (k) hkl 102 rfl
  refine goA hP96 [12] 1 3695 7791 Hz (m107.to ⟨il, il, il, il, il, il, il, trivial⟩) (.p (fun _ _ h_ => y_sliceLn h_ (k) rfl rfl U30 fct10 rfl hkl) .nil) fun Az Hz => ?_
  refine dtw 4 7 ?_ ?_
  ·
   refine e_app0N Hz m107 103 rfl rfl (m107.nums (i := 101) rfl) U30 fct22 (by decide) (by simp; omega) rfl fun p109 c109 Az w110 Hz m110 => ?_
   refine ⟨fun _ => (m110.to ⟨il, il, il, il, il, il, il, trivial⟩), ?_⟩
   refine so 7 ?_
   refine e_litN Hz m110 104 (k := .i64) rfl rfl U30 fct22 rfl rfl rfl rfl fun g111 Az w112 Hz m112 => ?_
   refine ⟨m112.to ⟨il, il, il, il, il, il, il, trivial⟩, ?_⟩
   refine so 8 ?_
   refine e_appN Hz m112 103 rfl rfl rfl (m112.numsO (i := 104) rfl) U30 fct22 (by decide) (by simp; omega) rfl fun p113 c113 Az w114 Hz m114 => ?_
   refine ⟨m114.to ⟨il, il, il, il, il, il, il, trivial⟩, ?_⟩
   refine so 13 ?_
   refine e_appN Hz m114 103 rfl rfl rfl (m114.nums (i := 102) rfl) U30 fct22 (by decide) (by simp; omega) rfl fun p115 c115 Az w116 Hz m116 => ?_
   refine ⟨m116.to ⟨il, il, il, il, il, il, il, trivial⟩, ?_⟩
   refine goA hP96 [14] 1 16383 32767 Hz (m116.to ⟨il, il, il, il, il, il, il, trivial⟩) (.fa 9 rfl U33 .nil) fun Az Hz => ?_
   refine se 15 ?_
   refine st1 Hz m116 8 fct30 fun w118 m118 _ => ?_
   refine wpAnyE_done (by kernel_rfl) ?_ _
   refine hK4 _ _ ?_
   replace Hz := Hz.oz [2, 3, 4, 6, 72, 81]
   refine zsr fun K13 hK13 => ?_
   refine goCh Hz (.loadBR m118 (i := 8) rfl rfl U33 rfl fct1 (by simp) (by dsimp only [List.drop, List.take] <;> rfl) .nil) fun Az Hz => ?_
   refine plz (stw Hz m118 10 fct1 fun w122 m122 _ => ?_)
   refine gz hK13 Hz (.assign rfl .nil) fun Az Hz => ?_
   refine rtd (retCT (fn := Tryz.f94) Hz m122 (i := 10) rfl rfl rfl rfl U33 rfl fct1 ?_)
   have m124 := m122.freezeN 103 rfl
   have hS := pin_sorted (k := k) hsp hall (by omega) (by omega)
   rw [hS] at m124 ⊢
   exact ⟨sortP (pins ++ [at0]), 0, _, _, rfl, by rw [pinR, show reachR hi fl at0 ws.length = 0 from by rw [reachR, if_neg (by simp_all), if_neg (by omega), if_neg (by omega)]]; rfl, m124.ren [(1, 1), (2, 2), (3, 3), (6, 103)] (by decide)⟩
  refine e_litN Hz m107 103 (k := .i64) rfl rfl U30 fct22 rfl rfl rfl rfl fun g125 Az w126 Hz m126 => ?_
  refine ⟨fun _ => (m126.to ⟨il, il, il, il, il, il, il, trivial⟩), ?_⟩
  refine so 4 ?_
  refine e_app0N Hz m126 104 rfl rfl (m126.nums (i := 101) rfl) U30 fct22 (by decide) (by simp; omega) rfl fun p127 c127 Az w128 Hz m128 => ?_
  refine ⟨m128.to ⟨il, il, il, il, il, il, il, trivial⟩, ?_⟩
  refine so 8 ?_
  refine e_appN Hz m128 104 rfl rfl rfl (m128.numsO (i := 103) rfl) U30 fct22 (by decide) (by simp; omega) rfl fun p129 c129 Az w130 Hz m130 => ?_
  refine ⟨m130.to ⟨il, il, il, il, il, il, il, trivial⟩, ?_⟩
  refine so 13 ?_
  refine e_appN Hz m130 104 rfl rfl rfl (m130.nums (i := 102) rfl) U30 fct22 (by decide) (by simp; omega) rfl fun p131 c131 Az w132 Hz m132 => ?_
  refine ⟨m132.to ⟨il, il, il, il, il, il, il, trivial⟩, ?_⟩
  refine goA hP96 [14] 1 16383 32767 Hz (m132.to ⟨il, il, il, il, il, il, il, trivial⟩) (.fa 9 rfl U33 .nil) fun Az Hz => ?_
  refine se 15 ?_
  refine st1 Hz m132 8 fct30 fun w134 m134 _ => ?_
  refine wpAnyE_done (by kernel_rfl) ?_ _
  refine hK4 _ _ ?_
  replace Hz := Hz.oz [2, 3, 4, 6, 72, 81]
  refine zsr fun K14 hK14 => ?_
  refine goCh Hz (.loadBR m134 (i := 8) rfl rfl U33 rfl fct1 (by simp) (by dsimp only [List.drop, List.take] <;> rfl) .nil) fun Az Hz => ?_
  refine plz (stw Hz m134 10 fct1 fun w138 m138 _ => ?_)
  refine gz hK14 Hz (.assign rfl .nil) fun Az Hz => ?_
  refine rtd (retCT (fn := Tryz.f94) Hz m138 (i := 10) rfl rfl rfl rfl U33 rfl fct1 ?_)
  have m140 := m138.freezeN 104 rfl
  have hS := pin_sorted (k := k) hsp hall (by omega) (by omega)
  rw [hS] at m140 ⊢
  exact ⟨sortP (pins ++ [at0]), 0, _, _, rfl, by rw [pinR, show reachR hi fl at0 ws.length = 0 from by rw [reachR, if_neg (by simp_all), if_neg (by omega), if_neg (by omega)]]; rfl, m140.ren [(1, 1), (2, 2), (3, 3), (6, 104)] (by decide)⟩
 have hk9 : k = pins.length := by omega
 have m141 := m69.oz [1, 2, 3, 8, 9, 10]
 refine region_p 15 (B := [(1, _), (2, _), (3, _), (8, _), (9, _), (10, _)]) (m141.to ⟨il, il, il, il, il, il, trivial⟩) m141 (by kernel_rfl) (fun w142 hP142 m142 => ?_); clear m141
 refine goR hP142 [0, 1, 2, 3, 4, 5] [2] 6 0 63 Hz (m142.to ⟨il, il, il, il, il, il, trivial⟩) (.move rfl <| .fa 9 rfl U33 <| .lb hh 8 U30 rfl rfl rfl <| .len rfl U30 <| .lss rfl rfl <| .move rfl .nil) fun Az Hz => ?_
 refine bc Hz 72 ?_ ?_
 · intro hb _; exact absurd hb (by simp; omega)
 clear Hz; intro _ Hz
 refine goA hP142 [6, 7, 8, 9, 10, 11, 12, 13, 14] 9 63 32767 Hz (m142.to ⟨il, il, il, il, il, il, trivial⟩) (.s <| .s <| .s <| .s <| .s <| .s <| .s <| .s <| .pickF rfl rfl .nil) fun Az Hz => ?_
 refine wpAnyE_done (by kernel_rfl) ?_ _
 refine hK12 _ _ ?_
 refine wcf Hz ?_
 refine wp_exit ?_
 refine hK10 _ _ ?_
 replace Hz := Hz.oz [2, 3, 4, 6, 72, 81]
 have m160 := m142.oz [1, 2, 3, 8, 9, 10]
 refine region_p 15 (B := [(1, _), (2, _), (3, _), (8, _), (9, _), (10, _)]) (m160.to ⟨il, il, il, il, il, il, trivial⟩) m160 (by kernel_rfl) (fun w161 hP161 m161 => ?_); clear m160
 refine goR hP161 [0, 1, 2] [1] 3 0 7 Hz (m161.to ⟨il, il, il, il, il, il, trivial⟩) (.fa 9 rfl U33 <| .lb hh 8 U30 rfl rfl rfl <| .move rfl .nil) fun Az Hz => ?_
 have hcap165 := (m161.rd (i := 2) rfl).ns_out.cap
 have m165 := m161.takeN (i := 2) rfl (k) hkl 100 rfl
 refine goR hP161 [3, 5, 6, 9, 10, 11] [6, 10] 6 7 3695 Hz (m165.to ⟨il, il, il, il, il, il, trivial⟩) (.p (fun _ _ h_ => y_sliceHn h_ (k) rfl rfl U30 fct10 rfl (Nat.le_trans hkl hcap165.1)) <| .fa 7 rfl U81 <| .lb hh 9 U2 rfl rfl rfl <| .fa 9 rfl U33 <| .lb hh 8 U30 rfl rfl rfl <| .move rfl .nil) fun Az Hz => ?_
 have m172 := m165.dropN (i := 2) rfl (k) hkl 101 rfl
 refine goA hP161 [12] 1 3695 7791 Hz (m172.to ⟨il, il, il, il, il, il, trivial⟩) (.p (fun _ _ h_ => y_sliceLn h_ (k) rfl rfl U30 fct10 rfl hkl) .nil) fun Az Hz => ?_
 refine dtw 4 7 ?_ ?_
 ·
  refine e_app0N Hz m172 102 rfl rfl (m172.nums (i := 100) rfl) U30 fct22 (by decide) (by simp; omega) rfl fun p174 c174 Az w175 Hz m175 => ?_
  refine ⟨fun _ => (m175.to ⟨il, il, il, il, il, il, trivial⟩), ?_⟩
  refine so 7 ?_
  refine e_litN Hz m175 103 (k := .i64) rfl rfl U30 fct22 rfl rfl rfl rfl fun g176 Az w177 Hz m177 => ?_
  refine ⟨m177.to ⟨il, il, il, il, il, il, trivial⟩, ?_⟩
  refine so 8 ?_
  refine e_appN Hz m177 102 rfl rfl rfl (m177.numsO (i := 103) rfl) U30 fct22 (by decide) (by simp; omega) rfl fun p178 c178 Az w179 Hz m179 => ?_
  refine ⟨m179.to ⟨il, il, il, il, il, il, trivial⟩, ?_⟩
  refine so 13 ?_
  refine e_appN Hz m179 102 rfl rfl rfl (m179.nums (i := 101) rfl) U30 fct22 (by decide) (by simp; omega) rfl fun p180 c180 Az w181 Hz m181 => ?_
  refine ⟨m181.to ⟨il, il, il, il, il, il, trivial⟩, ?_⟩
  refine goA hP161 [14] 1 16383 32767 Hz (m181.to ⟨il, il, il, il, il, il, trivial⟩) (.fa 9 rfl U33 .nil) fun Az Hz => ?_
  refine se 15 ?_
  refine st1 Hz m181 8 fct30 fun w183 m183 _ => ?_
  refine wpAnyE_done (by kernel_rfl) ?_ _
  refine hK4 _ _ ?_
  replace Hz := Hz.oz [2, 3, 4, 6, 72, 81]
  refine zsr fun K15 hK15 => ?_
  refine goCh Hz (.loadBR m183 (i := 8) rfl rfl U33 rfl fct1 (by simp) (by dsimp only [List.drop, List.take] <;> rfl) .nil) fun Az Hz => ?_
  refine plz (stw Hz m183 10 fct1 fun w187 m187 _ => ?_)
  refine gz hK15 Hz (.assign rfl .nil) fun Az Hz => ?_
  refine rtd (retCT (fn := Tryz.f94) Hz m187 (i := 10) rfl rfl rfl rfl U33 rfl fct1 ?_)
  have m189 := m187.freezeN 102 rfl
  have hS := pin_sorted (k := k) hsp hall (by omega) (by omega)
  rw [hS] at m189 ⊢
  exact ⟨sortP (pins ++ [at0]), 0, _, _, rfl, by rw [pinR, show reachR hi fl at0 ws.length = 0 from by rw [reachR, if_neg (by simp_all), if_neg (by omega), if_neg (by omega)]]; rfl, m189.ren [(1, 1), (2, 2), (3, 3), (6, 102)] (by decide)⟩
 refine e_litN Hz m172 102 (k := .i64) rfl rfl U30 fct22 rfl rfl rfl rfl fun g190 Az w191 Hz m191 => ?_
 refine ⟨fun _ => (m191.to ⟨il, il, il, il, il, il, trivial⟩), ?_⟩
 refine so 4 ?_
 refine e_app0N Hz m191 103 rfl rfl (m191.nums (i := 100) rfl) U30 fct22 (by decide) (by simp; omega) rfl fun p192 c192 Az w193 Hz m193 => ?_
 refine ⟨m193.to ⟨il, il, il, il, il, il, trivial⟩, ?_⟩
 refine so 8 ?_
 refine e_appN Hz m193 103 rfl rfl rfl (m193.numsO (i := 102) rfl) U30 fct22 (by decide) (by simp; omega) rfl fun p194 c194 Az w195 Hz m195 => ?_
 refine ⟨m195.to ⟨il, il, il, il, il, il, trivial⟩, ?_⟩
 refine so 13 ?_
 refine e_appN Hz m195 103 rfl rfl rfl (m195.nums (i := 101) rfl) U30 fct22 (by decide) (by simp; omega) rfl fun p196 c196 Az w197 Hz m197 => ?_
 refine ⟨m197.to ⟨il, il, il, il, il, il, trivial⟩, ?_⟩
 refine goA hP161 [14] 1 16383 32767 Hz (m197.to ⟨il, il, il, il, il, il, trivial⟩) (.fa 9 rfl U33 .nil) fun Az Hz => ?_
 refine se 15 ?_
 refine st1 Hz m197 8 fct30 fun w199 m199 _ => ?_
 refine wpAnyE_done (by kernel_rfl) ?_ _
 refine hK4 _ _ ?_
 replace Hz := Hz.oz [2, 3, 4, 6, 72, 81]
 refine zsr fun K16 hK16 => ?_
 refine goCh Hz (.loadBR m199 (i := 8) rfl rfl U33 rfl fct1 (by simp) (by dsimp only [List.drop, List.take] <;> rfl) .nil) fun Az Hz => ?_
 refine plz (stw Hz m199 10 fct1 fun w203 m203 _ => ?_)
 refine gz hK16 Hz (.assign rfl .nil) fun Az Hz => ?_
 refine rtd (retCT (fn := Tryz.f94) Hz m203 (i := 10) rfl rfl rfl rfl U33 rfl fct1 ?_)
 have m205 := m203.freezeN 103 rfl
 have hS := pin_sorted (k := k) hsp hall (by omega) (by omega)
 rw [hS] at m205 ⊢
 exact ⟨sortP (pins ++ [at0]), 0, _, _, rfl, by rw [pinR, show reachR hi fl at0 ws.length = 0 from by rw [reachR, if_neg (by simp_all), if_neg (by omega), if_neg (by omega)]]; rfl, m205.ren [(1, 1), (2, 2), (3, 3), (6, 103)] (by decide)⟩
theorem rdone5 (X : Cx) (vo bl sz pe to ne fl : Int) (hi : Bool) (place pins : List Int) (ws : List (Int × List (Int × List Int))) (pp pn pw : Option Addr) (cp cn9 cw : Nat) (v1 v2 v3 v4 v5 at0 v6 : Int) (q1 : Option Addr) (n1 c1 : Nat) (q2 : Option Addr) (n2 c2 : Nat) (w0 : World) (hp : pins.length ≤ 900000) (m0 : MemOk X w0 [(1, .dat (.slice pp place.length cp) (.ns .i64 place)), (2, .dat (.slice pn pins.length cn9) (.ns .i64 pins)), (3, .dat (.slice pw (ws.map wrD).length cw) (.l 2 (ws.map wrD)))] w0) :
   Calls Tryz.prog 94 #[.agg #[.int .i64 vo, .int .i64 bl, .int .i64 sz, .int .i64 pe, .slice pp place.length cp, .int .i64 to, .int .i64 ne, .bool hi, .int .i64 fl, .slice pn pins.length cn9, .slice pw (ws.map wrD).length cw], .agg #[.int .i64 5, .int .i64 v1, .int .i64 v2, .int .i64 v3, .int .i64 v4, .slice q1 n1 c1, .int .i64 v5, .int .i64 at0, .int .i64 v6, .slice q2 n2 c2]] w0 fun e w' => ∃ (pins' : List Int) (e9 : Int) (p2' : Option Addr) (d2' : Nat), e = .returned (.tuple #[.agg #[.int .i64 vo, .int .i64 bl, .int .i64 sz, .int .i64 pe, .slice pp place.length cp, .int .i64 to, .int .i64 ne, .bool hi, .int .i64 fl, .slice p2' pins'.length d2', .slice pw (ws.map wrD).length cw], .int .i64 e9]) ∧ unpinR hi at0 pins = (pins', e9) ∧ MemOk X w0 [(1, .dat (.slice pp place.length cp) (.ns .i64 place)), (2, .dat (.slice pn pins.length cn9) (.ns .i64 pins)), (3, .dat (.slice pw (ws.map wrD).length cw) (.l 2 (ws.map wrD))), (6, .dat (.slice p2' pins'.length d2') (.ns .i64 pins'))] w' := by
 refine ent2 Tryz.func94 rfl Tryz.ntmps94 fun Az Hz => ?_
 refine zsr fun K0 hK0 => ?_
 refine plz (e_box Hz m0 20 (cs := [_, _, _, _, _, _, _, _, _, _, _]) rfl rfl rfl fun g1 Az w2 Hz m2 _ _ => ?_)
 refine plz (e_box Hz m2 21 (cs := [_, _, _, _, _, _, _, _, _, _]) rfl rfl rfl fun g3 Az w4 Hz m4 _ _ => ?_)
 refine plz (e_alloc Hz m4 22 fct2 rfl fun g5 Az w6 Hz m6 _ _ => ?_)
 refine gz hK0 Hz (.assign rfl .nil) fun Az Hz => ?_
 refine wsk fun K1 hK1 => ?_
 refine regS Hz (.fa 0 rfl U81 <| .lb m6 21 U3 rfl rfl rfl .nil) fun Az Hz => ?_
 refine wp_block ?_
 refine wsk fun K2 hK2 => ?_
 refine regS Hz (.eql rfl rfl <| .assign rfl .nil) fun Az Hz => ?_
 refine bc Hz 10 ?_ ?_
 · intro hb _; exact absurd hb (by simp)
 clear Hz; intro _ Hz
 refine wcf Hz ?_
 refine regS Hz (.eql rfl rfl <| .assign rfl .nil) fun Az Hz => ?_
 refine bc Hz 10 ?_ ?_
 · intro hb _; exact absurd hb (by simp)
 clear Hz; intro _ Hz
 refine wcf Hz ?_
 refine regS Hz (.eql rfl rfl <| .assign rfl .nil) fun Az Hz => ?_
 refine bc Hz 10 ?_ ?_
 · intro hb _; exact absurd hb (by simp)
 clear Hz; intro _ Hz
 refine wcf Hz ?_
 replace Hz := Hz.oz [2, 3, 4, 5, 9, 10]
 refine wp_region_lit ?_
 refine gz hK2 Hz (.eql rfl rfl <| .assign rfl <| .nil) fun Az Hz => ?_
 refine bc Hz 10 ?_ ?_
 rotate_left
 · intro hb _; exact absurd hb (by simp)
 clear Hz; intro _ Hz
 refine wct Hz ?_
 refine regS Hz (.fa 7 rfl U33 <| .lb m6 20 U4 rfl rfl rfl .nil) fun Az Hz => ?_
 refine bc Hz 16 ?_ ?_
 ·
  intro hb25 Hz; try simp only [QQ, Qax] at hb25
  refine wct Hz ?_
  refine zsr fun K3 hK3 => ?_
  refine goCh Hz (.loadBR m6 (i := 20) rfl rfl U33 rfl fct1 (by simp) (by dsimp only [List.drop, List.take] <;> rfl) .nil) fun Az Hz => ?_
  refine plz (stw Hz m6 22 fct1 fun w28 m28 _ => ?_)
  refine gz hK3 Hz (.assign rfl .nil) fun Az Hz => ?_
  refine rtd (retCT (fn := Tryz.f94) Hz m28 (i := 22) rfl rfl rfl rfl U33 rfl fct1 ?_)
  have m30 := m28.dat 23 rfl (m28.rd (i := 2) rfl)
  exact ⟨pins, 28, _, _, rfl, by rw [unpinR, if_pos (by left; assumption)], m30.ren [(1, 1), (2, 2), (3, 3), (6, 23)] (by decide)⟩
 intro hb25 Hz; try simp only [QQ, Qax] at hb25
 refine wcf Hz ?_
 refine zss (hK1 _ _ ?_)
 refine wsk fun K4 hK4 => ?_
 refine regS Hz (.fa 0 rfl U81 <| .lb m6 21 U3 rfl rfl rfl .nil) fun Az Hz => ?_
 refine wp_block ?_
 refine regS Hz (.eql rfl rfl <| .assign rfl .nil) fun Az Hz => ?_
 refine bc Hz 21 ?_ ?_
 · intro hb _; exact absurd hb (by simp)
 clear Hz; intro _ Hz
 refine wcf Hz ?_
 replace Hz := Hz.oz [2, 3, 4, 5, 16, 19]
 refine regS Hz (.eql rfl rfl <| .assign rfl .nil) fun Az Hz => ?_
 refine bc Hz 36 ?_ ?_
 · intro hb _; exact absurd hb (by simp)
 clear Hz; intro _ Hz
 refine wcf Hz ?_
 refine regS Hz (.eql rfl rfl <| .assign rfl .nil) fun Az Hz => ?_
 refine bc Hz 53 ?_ ?_
 · intro hb _; exact absurd hb (by simp)
 clear Hz; intro _ Hz
 refine wcf Hz ?_
 refine regS Hz (.eql rfl rfl <| .assign rfl .nil) fun Az Hz => ?_
 refine bc Hz 99 ?_ ?_
 rotate_left
 · intro hb _; exact absurd hb (by simp)
 clear Hz; intro _ Hz
 refine wct Hz ?_
 refine wsk fun K5 hK5 => ?_
 replace Hz := Hz.oz [2, 3, 4, 5, 16, 19]
 refine regS Hz (.assign rfl .nil) fun Az Hz => ?_
 refine wp_block ?_
 refine wp_loop_ghost (fun g a w => ∃ (k B8 B9 B10 : Nat), k ≤ pins.length ∧ g = pins.length - k ∧ (∀ j, j < k → pins.getD j 0 ≠ at0) ∧ Has 197 [(2, .pointer (some ⟨B8, 0, none⟩)), (3, .pointer (some ⟨B9, 0, none⟩)), (4, .pointer (some ⟨B10, 0, none⟩)), (7, .int .i64 k)] a ∧ MemOk X w0 [(1, .dat (.slice pp place.length cp) (.ns .i64 place)), (2, .dat (.slice pn pins.length cn9) (.ns .i64 pins)), (3, .dat (.slice pw (ws.map wrD).length cw) (.l 2 (ws.map wrD))), (8, .box B8 33 [.int .i64 vo, .int .i64 bl, .int .i64 sz, .int .i64 pe, .slice pp place.length cp, .int .i64 to, .int .i64 ne, .bool hi, .int .i64 fl, .slice pn pins.length cn9, .slice pw (ws.map wrD).length cw]), (9, .box B9 81 [.int .i64 5, .int .i64 v1, .int .i64 v2, .int .i64 v3, .int .i64 v4, .slice q1 n1 c1, .int .i64 v5, .int .i64 at0, .int .i64 v6, .slice q2 n2 c2]), (10, .box B10 33 [.int .i64 0, .int .i64 0, .int .i64 0, .int .i64 0, .slice none 0 0, .int .i64 0, .int .i64 0, .bool false, .int .i64 0, .slice none 0 0, .slice none 0 0])] w) (pins.length) ?_ ?_
 · exact ⟨0, _, _, _, Nat.zero_le _, rfl, (fun j hj => by omega), Hz.only [2, 3, 4, 7], m6.ren [(1, 1), (2, 2), (3, 3), (8, 20), (9, 21), (10, 22)] (by decide)⟩
 clear Hz m6
 rintro g Az w48 ⟨k, B8, B9, B10, hkl, hg, hall, Hz, m48⟩
 refine wsk fun K6 hK6 => ?_
 refine regS Hz (.move rfl <| .fa 9 rfl U33 <| .lb m48 8 U30 rfl rfl rfl <| .len rfl U30 <| .lss rfl rfl .nil) fun Az Hz => ?_
 refine bc Hz 105 ?_ ?_
 ·
  intro hb54 Hz; try simp only [QQ, Qax] at hb54
  obtain ⟨hk, hkk⟩ : k < pins.length ∧ True := ⟨by omega, trivial⟩
  refine wct Hz ?_
  refine zss (hK6 _ _ ?_)
  refine wsk fun K7 hK7 => ?_
  refine wp_block ?_
  refine wsk fun K8 hK8 => ?_
  obtain ⟨b55, o55, hp55, m55⟩ := m48.openN (i := 2) rfl (k) (by omega) 100 rfl
  revert Hz
  cases hp55
  intro Hz
  have m56 := m55.oz [1, 2, 3, 8, 9, 10, 100]
  refine region_p 8 (B := [(1, _), (2, _), (3, _), (8, _), (9, _), (10, _), (100, _)]) (m56.to ⟨il, il, il, il, il, il, il, trivial⟩) m56 (by kernel_rfl) (fun w57 hP57 m57 => ?_); clear m56
  refine goR hP57 [0, 1, 2, 3, 4, 5, 6, 7] [1, 4, 6] 8 0 255 Hz (m57.to ⟨il, il, il, il, il, il, il, trivial⟩) (.fa 9 rfl U33 <| .lb hh 8 U30 rfl rfl rfl <| .move rfl <| .p (fun _ _ h_ => y_idx h_ rfl rfl U30 fct10 (k) rfl (by omega)) <| .loadC0 hh (i := 100) rfl rfl U2 rfl <| .fa 7 rfl U81 <| .lb hh 9 U2 rfl rfl rfl <| .eql rfl rfl .nil) fun Az Hz => ?_
  refine wpAnyE_done (by kernel_rfl) ?_ _
  refine hK8 _ _ ?_
  refine bc Hz 115 ?_ ?_
  ·
   intro hb66 Hz; try simp only [QQ, Qax] at hb66
   refine wct Hz ?_
   refine wsk fun K9 hK9 => ?_
   replace Hz := Hz.oz [2, 3, 4, 7, 105, 115]
   have m68 := m57.oz [1, 2, 3, 8, 9, 10, 100]
   refine region_p 12 (B := [(1, _), (2, _), (3, _), (8, _), (9, _), (10, _), (100, _)]) (m68.to ⟨il, il, il, il, il, il, il, trivial⟩) m68 (by kernel_rfl) (fun w69 hP69 m69 => ?_); clear m68
   refine goR hP69 [0, 1, 2] [1] 3 0 7 Hz (m69.to ⟨il, il, il, il, il, il, il, trivial⟩) (.fa 9 rfl U33 <| .lb hh 8 U30 rfl rfl rfl <| .move rfl .nil) fun Az Hz => ?_
   have hcap73 := (m69.rd (i := 2) rfl).ns_out.cap
   have m73 := m69.takeN (i := 2) rfl (k) hkl 101 rfl
   refine goR hP69 [3, 5, 6, 7, 8] [6] 5 7 495 Hz (m73.to ⟨il, il, il, il, il, il, il, trivial⟩) (.p (fun _ _ h_ => y_sliceHn h_ (k) rfl rfl U30 fct10 rfl (Nat.le_trans hkl hcap73.1)) <| .fa 9 rfl U33 <| .lb hh 8 U30 rfl rfl rfl <| .move rfl <| .add rfl rfl (r := ((k + 1 : Nat) : Int)) (by rw [IntWalk.i64_in _ (by omega)]; omega) .nil) fun Az Hz => ?_
   have m79 := m73.dropN (i := 2) rfl (k + 1) (show k + 1 ≤ pins.length by omega) 102 rfl
   refine goA hP69 [9] 1 495 1007 Hz (m79.to ⟨il, il, il, il, il, il, il, trivial⟩) (.p (fun _ _ h_ => y_sliceLn h_ (k + 1) rfl rfl U30 fct10 rfl (show k + 1 ≤ pins.length by omega)) .nil) fun Az Hz => ?_
   refine so 4 ?_
   refine e_app0N Hz m79 103 rfl rfl (m79.nums (i := 101) rfl) U30 fct22 (by decide) (by simp; omega) rfl fun p81 c81 Az w82 Hz m82 => ?_
   refine ⟨m82.to ⟨il, il, il, il, il, il, il, trivial⟩, ?_⟩
   refine so 10 ?_
   refine e_appN Hz m82 103 rfl rfl rfl (m82.nums (i := 102) rfl) U30 fct22 (by decide) (by simp; omega) rfl fun p83 c83 Az w84 Hz m84 => ?_
   refine ⟨m84.to ⟨il, il, il, il, il, il, il, trivial⟩, ?_⟩
   refine goA hP69 [11] 1 2047 4095 Hz (m84.to ⟨il, il, il, il, il, il, il, trivial⟩) (.fa 9 rfl U33 .nil) fun Az Hz => ?_
   refine se 12 ?_
   refine st1 Hz m84 8 fct30 fun w86 m86 _ => ?_
   refine wpAnyE_done (by kernel_rfl) ?_ _
   refine hK9 _ _ ?_
   replace Hz := Hz.oz [2, 3, 4, 7, 105, 115]
   refine zsr fun K10 hK10 => ?_
   refine goCh Hz (.loadBR m86 (i := 8) rfl rfl U33 rfl fct1 (by simp) (by dsimp only [List.drop, List.take] <;> rfl) .nil) fun Az Hz => ?_
   refine plz (stw Hz m86 10 fct1 fun w90 m90 _ => ?_)
   refine gz hK10 Hz (.assign rfl .nil) fun Az Hz => ?_
   refine rtd (retCT (fn := Tryz.f94) Hz m90 (i := 10) rfl rfl rfl rfl U33 rfl fct1 ?_)
   have m92 := m90.freezeN 103 rfl
   have hI := Lib.idxOf_hit pins pins.length k at0 hk (Nat.le_refl _) (by omega) hall
   rw [List.take_length] at hI
   exact ⟨pins.take k ++ pins.drop (k + 1), 0, _, _, rfl, by rw [unpinR, if_neg (by rintro (h | h) <;> first | omega | simp_all), hI]; simp, m92.ren [(1, 1), (2, 2), (3, 3), (6, 103)] (by decide)⟩
  intro hb66 Hz; try simp only [QQ, Qax] at hb66
  refine wcf Hz ?_
  refine zss (hK7 _ _ ?_)
  replace Hz := Hz.oz [2, 3, 4, 7, 105, 115]
  refine wp_region_lit ?_
  refine goCh Hz (.move rfl <| .inc (k + 1) <| .assign rfl .nil) fun Az Hz => ?_
  refine wpList_nil ?_
  show ∃ n', n' < _ ∧ _
  exact ⟨pins.length - (k + 1), by omega, k + 1, _, _, _, by omega, rfl, nn_snoc hall (by omega), Hz.only [2, 3, 4, 7], m57.only [1, 2, 3, 8, 9, 10]⟩
 intro hb54 Hz; try simp only [QQ, Qax] at hb54
 revert Hz
 obtain rfl : k = pins.length := by omega
 intro Hz
 refine wcf Hz ?_
 refine wp_exit ?_
 refine hK5 _ _ ?_
 refine zsr fun K11 hK11 => ?_
 refine goCh Hz (.loadBR m48 (i := 8) rfl rfl U33 rfl fct1 (by simp) (by dsimp only [List.drop, List.take] <;> rfl) .nil) fun Az Hz => ?_
 refine plz (stw Hz m48 10 fct1 fun w99 m99 _ => ?_)
 refine gz hK11 Hz (.assign rfl .nil) fun Az Hz => ?_
 refine rtd (retCT (fn := Tryz.f94) Hz m99 (i := 10) rfl rfl rfl rfl U33 rfl fct1 ?_)
 have m101 := m99.dat 100 rfl (m99.rd (i := 2) rfl)
 have hI := Lib.idxOf_miss pins pins.length at0 hall
 rw [List.take_length] at hI
 exact ⟨pins, 28, _, _, rfl, by rw [unpinR, if_pos (by right; omega)], m101.ren [(1, 1), (2, 2), (3, 3), (6, 100)] (by decide)⟩
end
section
theorem fl84rD0 : flatS Tryz.prog 84 [.int .i64 0, .int .i64 0, .int .i64 0, .int .i64 0, .slice none 0 0] = true := by kernel_rfl
theorem fl84rD4 : flatS Tryz.prog 84 [.int .i64 0, .int .i64 0, .int .i64 0, .int .i64 0, .slice none 0 0] = true := by kernel_rfl
theorem fl84rD5 : flatS Tryz.prog 84 [.int .i64 0, .int .i64 0, .int .i64 0, .int .i64 0, .slice none 0 0] = true := by kernel_rfl
theorem fl81cm : flatS Tryz.prog 81 [.int .i64 0, .int .i64 0, .int .i64 0, .int .i64 0, .int .i64 0, .slice none 0 0, .int .i64 0, .int .i64 0, .int .i64 0, .slice none 0 0] = true := by kernel_rfl
theorem doR_err {bl sz to ne fl : Int} {hi : Bool} {pins : List Int} {ws : List (Int × List (Int × List Int))} {kd at0 ix : Int} {it : List (Int × List Int)} {ne' fl' e9 : Int} {hi' : Bool} {ws' : List (Int × List (Int × List Int))} (h : doR bl sz to ne fl hi pins ws kd at0 ix it = (ne', hi', fl', ws', e9)) (he : ¬ e9 = 0) : ne' = ne ∧ hi' = hi ∧ fl' = fl ∧ ws' = ws := by
 unfold doR putR pruneR takeR publishR wrR at h
 repeat' split at h
 all_goals (simp only [Prod.mk.injEq] at h; obtain ⟨rfl, rfl, rfl, rfl, rfl⟩ := h; first | exact ⟨rfl, rfl, rfl, rfl⟩ | exact absurd rfl he | (exfalso; revert he; simp; done) | simp_all)
theorem pinR_err {fl at0 n : Int} {hi : Bool} {pins pins' : List Int} {e9 : Int} (h : pinR hi fl at0 n pins = (pins', e9)) (he : ¬ e9 = 0) : pins' = pins := by
 unfold pinR at h
 split at h
 all_goals (simp only [Prod.mk.injEq] at h; obtain ⟨rfl, rfl⟩ := h; first | rfl | exact absurd rfl he)
theorem unpinR_err {at0 : Int} {hi : Bool} {pins pins' : List Int} {e9 : Int} (h : unpinR hi at0 pins = (pins', e9)) (he : ¬ e9 = 0) : pins' = pins := by
 unfold unpinR at h
 split at h
 all_goals (simp only [Prod.mk.injEq] at h; obtain ⟨rfl, rfl⟩ := h; first | rfl | exact absurd rfl he)
theorem b2 {a b : Int} (ha : 0 ≤ a ∧ a ≤ 255) (hb : 0 ≤ b ∧ b ≤ 255) : ∀ j, j < [a, b].length → 0 ≤ [a, b].getD j 0 ∧ [a, b].getD j 0 ≤ 255 := fun j hj => by
 match j, hj with
 | 0, _ => exact ha
 | 1, _ => exact hb
theorem b3 {a b c : Int} (ha : 0 ≤ a ∧ a ≤ 255) (hb : 0 ≤ b ∧ b ≤ 255) (hc : 0 ≤ c ∧ c ≤ 255) : ∀ j, j < [a, b, c].length → 0 ≤ [a, b, c].getD j 0 ∧ [a, b, c].getD j 0 ≤ 255 := fun j hj => by
 match j, hj with
 | 0, _ => exact ha
 | 1, _ => exact hb
 | 2, _ => exact hc
def SmallI (l : List (Int × List Int)) : Prop := l.length ≤ 12 ∧ ∀ e ∈ l, e.2.length ≤ 40
theorem SmallI.ok {l : List (Int × List Int)} (h : SmallI l) : ItsOk l := fun e he => Nat.le_trans (h.2 e he) (by decide)
set_option maxRecDepth 100000
set_option maxHeartbeats 4000000
theorem rDo (X : Cx) (vo bl sz pe to ne fl : Int) (hi : Bool) (place pins : List Int) (ws : List (Int × List (Int × List Int))) (items : List (Int × List Int)) (pp pn pw : Option Addr) (cp cn9 cw : Nat) (pi : Option Addr) (ci : Nat) (kd v1 v2 v3 v4 v5 at0 ix : Int) (q1 : Option Addr) (n1 c1 : Nat) (w0 : World) (hk4 : kd ≠ 4) (hk5 : kd ≠ 5) (hne : -1000000000000000 ≤ ne ∧ ne ≤ 1000000000000000) (hl : ws.length ≤ 900000) (hp : pins.length ≤ 1000000) (hil : items.length ≤ 1000000) (hio : ItsOk items) (m0 : MemOk X w0 [(1, .dat (.slice pp place.length cp) (.ns .i64 place)), (2, .dat (.slice pn pins.length cn9) (.ns .i64 pins)), (3, .dat (.slice pw (ws.map wrD).length cw) (.l 2 (ws.map wrD))), (4, .dat (.slice pi items.length ci) (.l 2 (items.map itD)))] w0) :
   Calls Tryz.prog 63 #[.agg #[.int .i64 vo, .int .i64 bl, .int .i64 sz, .int .i64 pe, .slice pp place.length cp, .int .i64 to, .int .i64 ne, .bool hi, .int .i64 fl, .slice pn pins.length cn9, .slice pw (ws.map wrD).length cw], .agg #[.int .i64 kd, .int .i64 v1, .int .i64 v2, .int .i64 v3, .int .i64 v4, .slice q1 n1 c1, .int .i64 v5, .int .i64 at0, .int .i64 ix, .slice pi items.length ci]] w0 fun e w' => ∃ (ne' : Int) (hi' : Bool) (fl' : Int) (ws' : List (Int × List (Int × List Int))) (e9 rl rf rn : Int) (p3' : Option Addr) (d3' : Nat), e = .returned (.tuple #[.agg #[.int .i64 vo, .int .i64 bl, .int .i64 sz, .int .i64 pe, .slice pp place.length cp, .int .i64 to, .int .i64 ne', .bool hi', .int .i64 fl', .slice pn pins.length cn9, .slice p3' (ws'.map wrD).length d3'], .agg #[.int .i64 e9, .int .i64 rl, .int .i64 rf, .int .i64 rn, .slice none 0 0]]) ∧ doR bl sz to ne fl hi pins ws kd at0 ix items = (ne', hi', fl', ws', e9) ∧ ((e9 ≠ 0 ∧ rl = 0 ∧ rf = 0 ∧ rn = 0) ∨ (e9 = 0 ∧ rl = ws'.length ∧ rf = fl' ∧ rn = ne')) ∧ MemOk X w0 [(1, .dat (.slice pp place.length cp) (.ns .i64 place)), (2, .dat (.slice pn pins.length cn9) (.ns .i64 pins)), (3, .dat (.slice pw (ws.map wrD).length cw) (.l 2 (ws.map wrD))), (4, .dat (.slice pi items.length ci) (.l 2 (items.map itD))), (7, .dat (.slice p3' (ws'.map wrD).length d3') (.l 2 (ws'.map wrD)))] w' := by
 refine ent2 Tryz.func63 rfl Tryz.ntmps63 fun Az Hz => ?_
 refine zsr fun K0 hK0 => ?_
 refine plz (e_box Hz m0 20 (cs := [_, _, _, _, _, _, _, _, _, _, _]) rfl rfl rfl fun g1 Az w2 Hz m2 _ _ => ?_)
 refine plz (e_box Hz m2 21 (cs := [_, _, _, _, _, _, _, _, _, _]) rfl rfl rfl fun g3 Az w4 Hz m4 _ _ => ?_)
 refine plz (e_alloc Hz m4 22 fct2 rfl fun g5 Az w6 Hz m6 _ _ => ?_)
 refine plz (e_alloc Hz m6 23 fct8 rfl fun g7 Az w8 Hz m8 _ _ => ?_)
 refine znl (hK0 _ _ ?_)
 refine zsr fun K1 hK1 => ?_
 refine goCh Hz (.loadBR m8 (i := 20) rfl rfl U33 rfl fct1 (by simp) (by dsimp only [List.drop, List.take] <;> rfl) <| .loadBR m8 (i := 21) rfl rfl U81 rfl fct5 (by simp) (by dsimp only [List.drop, List.take] <;> rfl) .nil) fun Az Hz => ?_
 refine plz (ecl Hz Tryz.func94 rfl (rdone _ _ _ _ _ _ _ _ _ place pins ws items _ _ _ _ _ _ _ _ kd _ _ _ _ _ _ _ _ _ _ _ hk4 hk5 hne hl hp hil hio (m8.into [(1, 1), (2, 2), (3, 3), (4, 4)] (by decide) rfl)) ?_)
 rintro e w13 ⟨ne1, hi1, fl1, ws1, e1, p13, c13, rfl, hR, hm13⟩
 have mx13 := m8.back hm13 [(1, 1), (2, 2), (3, 3), (4, 4), (24, 7)] (by decide); clear hm13 m8
 have m13 := mx13.oz [1, 2, 3, 4, 24, 20, 21, 22, 23]
 refine ⟨_, rfl, ?_⟩; intro Az Hz
 refine goCh Hz (.move rfl <| .extract rfl rfl <| .extract rfl rfl .nil) fun Az Hz => ?_
 refine plz (e_alloc Hz m13 25 fct2 rfl fun g18 Az w19 Hz m19 _ _ => ?_)
 refine plz (stw Hz m19 25 fct1 fun w20 m20 _ => ?_)
 refine gz hK1 Hz (.assign rfl .nil) fun Az Hz => ?_
 refine wsk fun K2 hK2 => ?_
 replace Hz := Hz.oz [2, 4, 5, 6, 7]
 refine regS Hz (.move rfl <| .neq rfl rfl .nil) fun Az Hz => ?_
 refine bc Hz 15 ?_ ?_
 ·
  intro hb25 Hz; try simp only [QQ, Qax] at hb25
  refine wct Hz ?_
  refine zsr fun K3 hK3 => ?_
  refine goCh Hz (.loadBR m20 (i := 20) rfl rfl U33 rfl fct1 (by simp) (by dsimp only [List.drop, List.take] <;> rfl) <| .move rfl <| .build rfl fct8 fl84rD0 rfl (by dsimp only [setL, List.set] <;> rfl) .nil) fun Az Hz => ?_
  refine plz (stw Hz m20 22 fct1 fun w32 m32 _ => ?_)
  refine plz (stw Hz m32 23 fct6 fun w33 m33 _ => ?_)
  refine znl (hK3 _ _ ?_)
  refine rtd (retCC (fn := Tryz.f63) Hz m33 (i := 22) (i2 := 23) rfl rfl rfl rfl rfl U33 rfl fct1 U84 rfl fct6 ?_)
  revert Hz
  obtain ⟨rfl, rfl, rfl, rfl⟩ := doR_err hR (by assumption)
  intro Hz
  have m34 := m33.dat 26 rfl (m33.rd (i := 3) rfl)
  exact ⟨ne1, hi1, fl1, ws1, e1, 0, 0, 0, _, _, rfl, hR, .inl ⟨by assumption, rfl, rfl, rfl⟩, m34.ren [(1, 1), (2, 2), (3, 3), (4, 4), (7, 26)] (by decide)⟩
 intro hb25 Hz; try simp only [QQ, Qax] at hb25
 refine wcf Hz ?_
 refine zss (hK2 _ _ ?_)
 refine wsk fun K4 hK4 => ?_
 have m35 := m20.oz [1, 2, 3, 4, 20, 21, 22, 23, 24, 25]
 refine region_p 10 (B := [(25, _)]) (m35.to ⟨il, trivial⟩) m35 (by kernel_rfl) (fun w36 hP36 m36 => ?_); clear m35
 refine goR hP36 [0, 1, 3, 4, 5, 6] [0, 1, 4, 6] 6 0 123 Hz (m36.to ⟨il, trivial⟩) (.loadBR hh (i := 25) rfl rfl U33 rfl fct1 (by simp) (by dsimp only [List.drop, List.take] <;> rfl) <| .loadBR hh (i := 25) rfl rfl U33 rfl fct1 (by simp) (by dsimp only [List.drop, List.take] <;> rfl) <| .fa 8 rfl U33 <| .lb hh 25 U2 rfl rfl rfl <| .fa 6 rfl U33 <| .lb hh 25 U3 rfl rfl rfl .nil) fun Az Hz => ?_
 refine so 2 ?_
 refine ecb Hz Tryz.func13 rfl m36 (rlen_any _ _ _ _ _ _ _ _ _ _ _ _ _ _ _ _ _ _) fun Az w43 Hz m44 => ?_
 refine ⟨m44.to ⟨il, trivial⟩, ?_⟩
 refine goA hP36 [7] 1 127 255 Hz (m44.to ⟨il, trivial⟩) (.build rfl fct8 fl84rD0 rfl (by dsimp only [setL, List.set] <;> rfl) .nil) fun Az Hz => ?_
 refine so 8 ?_
 refine stw Hz m44 22 fct1 fun w47 m47 _ => ?_
 refine ⟨m47.to ⟨il, trivial⟩, ?_⟩
 refine so 9 ?_
 refine stw Hz m47 23 fct6 fun w48 m48 _ => ?_
 refine ⟨m48.to ⟨il, trivial⟩, ?_⟩
 refine wpAnyE_done (by kernel_rfl) ?_ _
 refine hK4 _ _ ?_
 refine rtd (retCC (fn := Tryz.f63) Hz m48 (i := 22) (i2 := 23) rfl rfl rfl rfl rfl U33 rfl fct1 U84 rfl fct6 ?_)
 revert Hz
 obtain rfl : e1 = 0 := by first | assumption | omega
 intro Hz
 exact ⟨ne1, hi1, fl1, ws1, 0, ws1.length, fl1, ne1, _, _, by rw [List.length_map], hR, .inr ⟨rfl, rfl, rfl, rfl⟩, m48.ren [(1, 1), (2, 2), (3, 3), (4, 4), (7, 24)] (by decide)⟩
theorem rDo4 (X : Cx) (vo bl sz pe to ne fl : Int) (hi : Bool) (place pins : List Int) (ws : List (Int × List (Int × List Int))) (pp pn pw : Option Addr) (cp cn9 cw : Nat) (v1 v2 v3 v4 v5 at0 v6 : Int) (q1 : Option Addr) (n1 c1 : Nat) (q2 : Option Addr) (n2 c2 : Nat) (w0 : World) (hp : pins.length ≤ 900000) (hsp : pins.Pairwise (· ≤ ·)) (m0 : MemOk X w0 [(1, .dat (.slice pp place.length cp) (.ns .i64 place)), (2, .dat (.slice pn pins.length cn9) (.ns .i64 pins)), (3, .dat (.slice pw (ws.map wrD).length cw) (.l 2 (ws.map wrD)))] w0) :
   Calls Tryz.prog 63 #[.agg #[.int .i64 vo, .int .i64 bl, .int .i64 sz, .int .i64 pe, .slice pp place.length cp, .int .i64 to, .int .i64 ne, .bool hi, .int .i64 fl, .slice pn pins.length cn9, .slice pw (ws.map wrD).length cw], .agg #[.int .i64 4, .int .i64 v1, .int .i64 v2, .int .i64 v3, .int .i64 v4, .slice q1 n1 c1, .int .i64 v5, .int .i64 at0, .int .i64 v6, .slice q2 n2 c2]] w0 fun e w' => ∃ (pins' : List Int) (e9 rl rf rn : Int) (p2' : Option Addr) (d2' : Nat), e = .returned (.tuple #[.agg #[.int .i64 vo, .int .i64 bl, .int .i64 sz, .int .i64 pe, .slice pp place.length cp, .int .i64 to, .int .i64 ne, .bool hi, .int .i64 fl, .slice p2' pins'.length d2', .slice pw (ws.map wrD).length cw], .agg #[.int .i64 e9, .int .i64 rl, .int .i64 rf, .int .i64 rn, .slice none 0 0]]) ∧ pinR hi fl at0 ws.length pins = (pins', e9) ∧ ((e9 ≠ 0 ∧ rl = 0 ∧ rf = 0 ∧ rn = 0) ∨ (e9 = 0 ∧ rl = ws.length ∧ rf = fl ∧ rn = ne)) ∧ MemOk X w0 [(1, .dat (.slice pp place.length cp) (.ns .i64 place)), (2, .dat (.slice pn pins.length cn9) (.ns .i64 pins)), (3, .dat (.slice pw (ws.map wrD).length cw) (.l 2 (ws.map wrD))), (6, .dat (.slice p2' pins'.length d2') (.ns .i64 pins'))] w' := by
 refine ent2 Tryz.func63 rfl Tryz.ntmps63 fun Az Hz => ?_
 refine zsr fun K0 hK0 => ?_
 refine plz (e_box Hz m0 20 (cs := [_, _, _, _, _, _, _, _, _, _, _]) rfl rfl rfl fun g1 Az w2 Hz m2 _ _ => ?_)
 refine plz (e_box Hz m2 21 (cs := [_, _, _, _, _, _, _, _, _, _]) rfl rfl rfl fun g3 Az w4 Hz m4 _ _ => ?_)
 refine plz (e_alloc Hz m4 22 fct2 rfl fun g5 Az w6 Hz m6 _ _ => ?_)
 refine plz (e_alloc Hz m6 23 fct8 rfl fun g7 Az w8 Hz m8 _ _ => ?_)
 refine znl (hK0 _ _ ?_)
 refine zsr fun K1 hK1 => ?_
 refine goCh Hz (.loadBR m8 (i := 20) rfl rfl U33 rfl fct1 (by simp) (by dsimp only [List.drop, List.take] <;> rfl) <| .loadBR m8 (i := 21) rfl rfl U81 rfl fct5 (by simp) (by dsimp only [List.drop, List.take] <;> rfl) .nil) fun Az Hz => ?_
 refine plz (ecl Hz Tryz.func94 rfl (rdone4 _ _ _ _ _ _ _ _ _ place pins ws _ _ _ _ _ _ _ _ _ _ _ _ _ _ _ _ _ _ _ _ hp hsp (m8.into [(1, 1), (2, 2), (3, 3)] (by decide) rfl)) ?_)
 rintro e w13 ⟨pins1, e1, p13, c13, rfl, hR, hm13⟩
 have mx13 := m8.back hm13 [(1, 1), (2, 2), (3, 3), (24, 6)] (by decide); clear hm13 m8
 have m13 := mx13.oz [1, 2, 3, 24, 20, 21, 22, 23]
 refine ⟨_, rfl, ?_⟩; intro Az Hz
 refine goCh Hz (.move rfl <| .extract rfl rfl <| .extract rfl rfl .nil) fun Az Hz => ?_
 refine plz (e_alloc Hz m13 25 fct2 rfl fun g18 Az w19 Hz m19 _ _ => ?_)
 refine plz (stw Hz m19 25 fct1 fun w20 m20 _ => ?_)
 refine gz hK1 Hz (.assign rfl .nil) fun Az Hz => ?_
 refine wsk fun K2 hK2 => ?_
 replace Hz := Hz.oz [2, 4, 5, 6, 7]
 refine regS Hz (.move rfl <| .neq rfl rfl .nil) fun Az Hz => ?_
 refine bc Hz 15 ?_ ?_
 ·
  intro hb25 Hz; try simp only [QQ, Qax] at hb25
  refine wct Hz ?_
  refine zsr fun K3 hK3 => ?_
  refine goCh Hz (.loadBR m20 (i := 20) rfl rfl U33 rfl fct1 (by simp) (by dsimp only [List.drop, List.take] <;> rfl) <| .move rfl <| .build rfl fct8 fl84rD4 rfl (by dsimp only [setL, List.set] <;> rfl) .nil) fun Az Hz => ?_
  refine plz (stw Hz m20 22 fct1 fun w32 m32 _ => ?_)
  refine plz (stw Hz m32 23 fct6 fun w33 m33 _ => ?_)
  refine znl (hK3 _ _ ?_)
  refine rtd (retCC (fn := Tryz.f63) Hz m33 (i := 22) (i2 := 23) rfl rfl rfl rfl rfl U33 rfl fct1 U84 rfl fct6 ?_)
  revert Hz
  obtain rfl := pinR_err hR (by assumption)
  intro Hz
  have m34 := m33.dat 26 rfl (m33.rd (i := 2) rfl)
  exact ⟨pins1, e1, 0, 0, 0, _, _, rfl, hR, .inl ⟨by assumption, rfl, rfl, rfl⟩, m34.ren [(1, 1), (2, 2), (3, 3), (6, 26)] (by decide)⟩
 intro hb25 Hz; try simp only [QQ, Qax] at hb25
 refine wcf Hz ?_
 refine zss (hK2 _ _ ?_)
 refine wsk fun K4 hK4 => ?_
 have m35 := m20.oz [1, 2, 3, 20, 21, 22, 23, 24, 25]
 refine region_p 10 (B := [(25, _)]) (m35.to ⟨il, trivial⟩) m35 (by kernel_rfl) (fun w36 hP36 m36 => ?_); clear m35
 refine goR hP36 [0, 1, 3, 4, 5, 6] [0, 1, 4, 6] 6 0 123 Hz (m36.to ⟨il, trivial⟩) (.loadBR hh (i := 25) rfl rfl U33 rfl fct1 (by simp) (by dsimp only [List.drop, List.take] <;> rfl) <| .loadBR hh (i := 25) rfl rfl U33 rfl fct1 (by simp) (by dsimp only [List.drop, List.take] <;> rfl) <| .fa 8 rfl U33 <| .lb hh 25 U2 rfl rfl rfl <| .fa 6 rfl U33 <| .lb hh 25 U3 rfl rfl rfl .nil) fun Az Hz => ?_
 refine so 2 ?_
 refine ecb Hz Tryz.func13 rfl m36 (rlen_any _ _ _ _ _ _ _ _ _ _ _ _ _ _ _ _ _ _) fun Az w43 Hz m44 => ?_
 refine ⟨m44.to ⟨il, trivial⟩, ?_⟩
 refine goA hP36 [7] 1 127 255 Hz (m44.to ⟨il, trivial⟩) (.build rfl fct8 fl84rD4 rfl (by dsimp only [setL, List.set] <;> rfl) .nil) fun Az Hz => ?_
 refine so 8 ?_
 refine stw Hz m44 22 fct1 fun w47 m47 _ => ?_
 refine ⟨m47.to ⟨il, trivial⟩, ?_⟩
 refine so 9 ?_
 refine stw Hz m47 23 fct6 fun w48 m48 _ => ?_
 refine ⟨m48.to ⟨il, trivial⟩, ?_⟩
 refine wpAnyE_done (by kernel_rfl) ?_ _
 refine hK4 _ _ ?_
 refine rtd (retCC (fn := Tryz.f63) Hz m48 (i := 22) (i2 := 23) rfl rfl rfl rfl rfl U33 rfl fct1 U84 rfl fct6 ?_)
 revert Hz
 obtain rfl : e1 = 0 := by first | assumption | omega
 intro Hz
 exact ⟨pins1, 0, ws.length, fl, ne, _, _, by rw [List.length_map], hR, .inr ⟨rfl, rfl, rfl, rfl⟩, m48.ren [(1, 1), (2, 2), (3, 3), (6, 24)] (by decide)⟩
theorem rDo5 (X : Cx) (vo bl sz pe to ne fl : Int) (hi : Bool) (place pins : List Int) (ws : List (Int × List (Int × List Int))) (pp pn pw : Option Addr) (cp cn9 cw : Nat) (v1 v2 v3 v4 v5 at0 v6 : Int) (q1 : Option Addr) (n1 c1 : Nat) (q2 : Option Addr) (n2 c2 : Nat) (w0 : World) (hp : pins.length ≤ 900000) (m0 : MemOk X w0 [(1, .dat (.slice pp place.length cp) (.ns .i64 place)), (2, .dat (.slice pn pins.length cn9) (.ns .i64 pins)), (3, .dat (.slice pw (ws.map wrD).length cw) (.l 2 (ws.map wrD)))] w0) :
   Calls Tryz.prog 63 #[.agg #[.int .i64 vo, .int .i64 bl, .int .i64 sz, .int .i64 pe, .slice pp place.length cp, .int .i64 to, .int .i64 ne, .bool hi, .int .i64 fl, .slice pn pins.length cn9, .slice pw (ws.map wrD).length cw], .agg #[.int .i64 5, .int .i64 v1, .int .i64 v2, .int .i64 v3, .int .i64 v4, .slice q1 n1 c1, .int .i64 v5, .int .i64 at0, .int .i64 v6, .slice q2 n2 c2]] w0 fun e w' => ∃ (pins' : List Int) (e9 rl rf rn : Int) (p2' : Option Addr) (d2' : Nat), e = .returned (.tuple #[.agg #[.int .i64 vo, .int .i64 bl, .int .i64 sz, .int .i64 pe, .slice pp place.length cp, .int .i64 to, .int .i64 ne, .bool hi, .int .i64 fl, .slice p2' pins'.length d2', .slice pw (ws.map wrD).length cw], .agg #[.int .i64 e9, .int .i64 rl, .int .i64 rf, .int .i64 rn, .slice none 0 0]]) ∧ unpinR hi at0 pins = (pins', e9) ∧ ((e9 ≠ 0 ∧ rl = 0 ∧ rf = 0 ∧ rn = 0) ∨ (e9 = 0 ∧ rl = ws.length ∧ rf = fl ∧ rn = ne)) ∧ MemOk X w0 [(1, .dat (.slice pp place.length cp) (.ns .i64 place)), (2, .dat (.slice pn pins.length cn9) (.ns .i64 pins)), (3, .dat (.slice pw (ws.map wrD).length cw) (.l 2 (ws.map wrD))), (6, .dat (.slice p2' pins'.length d2') (.ns .i64 pins'))] w' := by
 refine ent2 Tryz.func63 rfl Tryz.ntmps63 fun Az Hz => ?_
 refine zsr fun K0 hK0 => ?_
 refine plz (e_box Hz m0 20 (cs := [_, _, _, _, _, _, _, _, _, _, _]) rfl rfl rfl fun g1 Az w2 Hz m2 _ _ => ?_)
 refine plz (e_box Hz m2 21 (cs := [_, _, _, _, _, _, _, _, _, _]) rfl rfl rfl fun g3 Az w4 Hz m4 _ _ => ?_)
 refine plz (e_alloc Hz m4 22 fct2 rfl fun g5 Az w6 Hz m6 _ _ => ?_)
 refine plz (e_alloc Hz m6 23 fct8 rfl fun g7 Az w8 Hz m8 _ _ => ?_)
 refine znl (hK0 _ _ ?_)
 refine zsr fun K1 hK1 => ?_
 refine goCh Hz (.loadBR m8 (i := 20) rfl rfl U33 rfl fct1 (by simp) (by dsimp only [List.drop, List.take] <;> rfl) <| .loadBR m8 (i := 21) rfl rfl U81 rfl fct5 (by simp) (by dsimp only [List.drop, List.take] <;> rfl) .nil) fun Az Hz => ?_
 refine plz (ecl Hz Tryz.func94 rfl (rdone5 _ _ _ _ _ _ _ _ _ place pins ws _ _ _ _ _ _ _ _ _ _ _ _ _ _ _ _ _ _ _ _ hp (m8.into [(1, 1), (2, 2), (3, 3)] (by decide) rfl)) ?_)
 rintro e w13 ⟨pins1, e1, p13, c13, rfl, hR, hm13⟩
 have mx13 := m8.back hm13 [(1, 1), (2, 2), (3, 3), (24, 6)] (by decide); clear hm13 m8
 have m13 := mx13.oz [1, 2, 3, 24, 20, 21, 22, 23]
 refine ⟨_, rfl, ?_⟩; intro Az Hz
 refine goCh Hz (.move rfl <| .extract rfl rfl <| .extract rfl rfl .nil) fun Az Hz => ?_
 refine plz (e_alloc Hz m13 25 fct2 rfl fun g18 Az w19 Hz m19 _ _ => ?_)
 refine plz (stw Hz m19 25 fct1 fun w20 m20 _ => ?_)
 refine gz hK1 Hz (.assign rfl .nil) fun Az Hz => ?_
 refine wsk fun K2 hK2 => ?_
 replace Hz := Hz.oz [2, 4, 5, 6, 7]
 refine regS Hz (.move rfl <| .neq rfl rfl .nil) fun Az Hz => ?_
 refine bc Hz 15 ?_ ?_
 ·
  intro hb25 Hz; try simp only [QQ, Qax] at hb25
  refine wct Hz ?_
  refine zsr fun K3 hK3 => ?_
  refine goCh Hz (.loadBR m20 (i := 20) rfl rfl U33 rfl fct1 (by simp) (by dsimp only [List.drop, List.take] <;> rfl) <| .move rfl <| .build rfl fct8 fl84rD5 rfl (by dsimp only [setL, List.set] <;> rfl) .nil) fun Az Hz => ?_
  refine plz (stw Hz m20 22 fct1 fun w32 m32 _ => ?_)
  refine plz (stw Hz m32 23 fct6 fun w33 m33 _ => ?_)
  refine znl (hK3 _ _ ?_)
  refine rtd (retCC (fn := Tryz.f63) Hz m33 (i := 22) (i2 := 23) rfl rfl rfl rfl rfl U33 rfl fct1 U84 rfl fct6 ?_)
  revert Hz
  obtain rfl := unpinR_err hR (by assumption)
  intro Hz
  have m34 := m33.dat 26 rfl (m33.rd (i := 2) rfl)
  exact ⟨pins1, e1, 0, 0, 0, _, _, rfl, hR, .inl ⟨by assumption, rfl, rfl, rfl⟩, m34.ren [(1, 1), (2, 2), (3, 3), (6, 26)] (by decide)⟩
 intro hb25 Hz; try simp only [QQ, Qax] at hb25
 refine wcf Hz ?_
 refine zss (hK2 _ _ ?_)
 refine wsk fun K4 hK4 => ?_
 have m35 := m20.oz [1, 2, 3, 20, 21, 22, 23, 24, 25]
 refine region_p 10 (B := [(25, _)]) (m35.to ⟨il, trivial⟩) m35 (by kernel_rfl) (fun w36 hP36 m36 => ?_); clear m35
 refine goR hP36 [0, 1, 3, 4, 5, 6] [0, 1, 4, 6] 6 0 123 Hz (m36.to ⟨il, trivial⟩) (.loadBR hh (i := 25) rfl rfl U33 rfl fct1 (by simp) (by dsimp only [List.drop, List.take] <;> rfl) <| .loadBR hh (i := 25) rfl rfl U33 rfl fct1 (by simp) (by dsimp only [List.drop, List.take] <;> rfl) <| .fa 8 rfl U33 <| .lb hh 25 U2 rfl rfl rfl <| .fa 6 rfl U33 <| .lb hh 25 U3 rfl rfl rfl .nil) fun Az Hz => ?_
 refine so 2 ?_
 refine ecb Hz Tryz.func13 rfl m36 (rlen_any _ _ _ _ _ _ _ _ _ _ _ _ _ _ _ _ _ _) fun Az w43 Hz m44 => ?_
 refine ⟨m44.to ⟨il, trivial⟩, ?_⟩
 refine goA hP36 [7] 1 127 255 Hz (m44.to ⟨il, trivial⟩) (.build rfl fct8 fl84rD5 rfl (by dsimp only [setL, List.set] <;> rfl) .nil) fun Az Hz => ?_
 refine so 8 ?_
 refine stw Hz m44 22 fct1 fun w47 m47 _ => ?_
 refine ⟨m47.to ⟨il, trivial⟩, ?_⟩
 refine so 9 ?_
 refine stw Hz m47 23 fct6 fun w48 m48 _ => ?_
 refine ⟨m48.to ⟨il, trivial⟩, ?_⟩
 refine wpAnyE_done (by kernel_rfl) ?_ _
 refine hK4 _ _ ?_
 refine rtd (retCC (fn := Tryz.f63) Hz m48 (i := 22) (i2 := 23) rfl rfl rfl rfl rfl U33 rfl fct1 U84 rfl fct6 ?_)
 revert Hz
 obtain rfl : e1 = 0 := by first | assumption | omega
 intro Hz
 exact ⟨pins1, 0, ws.length, fl, ne, _, _, by rw [List.length_map], hR, .inr ⟨rfl, rfl, rfl, rfl⟩, m48.ren [(1, 1), (2, 2), (3, 3), (6, 24)] (by decide)⟩
theorem scmd_any (vo bl : Int) (z : Nat) (pe to ne fl : Int) (hi : Bool) (pp pn pw : Option Addr) (np cp nn9 cn9 nw cw : Nat) (wh xa xb xc : Int) (w0 : World) (hz : z ≤ 1000) (hnw : nw ≤ 1000000) (hne : -1000000000000000 ≤ ne ∧ ne ≤ 1000000000000000) (hw9 : 0 ≤ wh ∧ wh ≤ 255) (ha9 : 0 ≤ xa ∧ xa ≤ 255) (hb9 : 0 ≤ xb ∧ xb ≤ 255) (hc9 : 0 ≤ xc ∧ xc ≤ 255) :
   Calls Tryz.prog 30 #[.agg #[.int .i64 vo, .int .i64 bl, .int .i64 (z : Int), .int .i64 pe, .slice pp np cp, .int .i64 to, .int .i64 ne, .bool hi, .int .i64 fl, .slice pn nn9 cn9, .slice pw nw cw], .bool true, .int .u8 wh, .int .u8 xa, .int .u8 xb, .int .u8 xc] w0 fun e w' => ∃ (kd bl2 sz2 pe2 to2 at0 ix vo2 : Int) (it : List (Int × List Int)) (pi : Option Addr) (ci : Nat) (dd : Unit), e = .returned (.agg #[.int .i64 kd, .int .i64 vo2, .int .i64 bl2, .int .i64 sz2, .int .i64 pe2, .slice none 0 0, .int .i64 to2, .int .i64 at0, .int .i64 ix, .slice pi it.length ci]) ∧ (2 ≤ kd ∧ kd ≤ 8) ∧ it.length ≤ 8 ∧ ItsB it ∧ Rd (New w0) w' (.slice pi it.length ci) (.l 2 (it.map itD)) ∧ Below w0.heap.size w0 w' := by
 refine ent6 Tryz.func30 rfl Tryz.ntmps30 fun Az Hz => ?_
 have m0 := MemOk.start (fun _ => False) w0
 refine zsr fun K0 hK0 => ?_
 refine plz (e_box Hz m0 20 (cs := [_, _, _, _, _, _, _, _, _, _, _]) rfl rfl rfl fun g1 Az w2 Hz m2 _ _ => ?_)
 refine plz (e_alloc Hz m2 21 fct7 rfl fun g3 Az w4 Hz m4 _ _ => ?_)
 refine znl (hK0 _ _ ?_)
 refine wsk fun K1 hK1 => ?_
 refine regS Hz (.move rfl <| .not rfl .nil) fun Az Hz => ?_
 refine wcf Hz ?_
 refine zss (hK1 _ _ ?_)
 refine zsr fun K2 hK2 => ?_
 refine goCh Hz (.fa 0 rfl U33 <| .lb m4 20 U3 rfl rfl rfl <| .build rfl fct7 fl81cm rfl (by dsimp only [setL, List.set] <;> rfl) .nil) fun Az Hz => ?_
 refine plz (e_alloc Hz m4 22 fct7 rfl fun g13 Az w14 Hz m14 _ _ => ?_)
 refine plz (stw Hz m14 22 fct5 fun w15 m15 _ => ?_)
 refine znl (hK2 _ _ ?_)
 refine wsk fun K3 hK3 => ?_
 have hC3 : ∀ (a : Act) (w : World), (∃ (kd at0 ix : Int) (it : List (Int × List Int)) (pi : Option Addr) (ci : Nat) (B6 B12 B14 : Nat), (2 ≤ kd ∧ kd ≤ 8) ∧ it.length ≤ 8 ∧ ItsB it ∧ Has 131 [(2, .int .u8 wh), (3, .int .u8 xa), (4, .int .u8 xb), (5, .int .u8 xc), (6, .pointer (some ⟨B6, 0, none⟩)), (12, .pointer (some ⟨B12, 0, none⟩)), (14, .pointer (some ⟨B14, 0, none⟩))] a ∧ MemOk (cn w0) w0 [(6, .box B6 33 [.int .i64 vo, .int .i64 bl, .int .i64 (z : Int), .int .i64 pe, .slice pp np cp, .int .i64 to, .int .i64 ne, .bool hi, .int .i64 fl, .slice pn nn9 cn9, .slice pw nw cw]), (12, .box B12 81 [.int .i64 0, .int .i64 0, .int .i64 0, .int .i64 0, .int .i64 0, .slice none 0 0, .int .i64 0, .int .i64 0, .int .i64 0, .slice none 0 0]), (14, .box B14 81 [.int .i64 kd, .int .i64 vo, .int .i64 0, .int .i64 0, .int .i64 0, .slice none 0 0, .int .i64 0, .int .i64 at0, .int .i64 ix, .slice pi it.length ci]), (9, .dat (.slice pi it.length ci) (.l 2 (it.map itD)))] w) → K3 a w := by
   clear Hz m15
   rintro Az w16 ⟨kd, at0, ix, it, pi, ci, B6, B12, B14, hkd, hit8, hitb, Hz, m16⟩
   refine hK3 _ _ ?_
   refine wsk fun K4 hK4 => ?_
   refine zsr fun K5 hK5 => ?_
   refine goCh Hz (.fa 7 rfl U33 <| .lb m16 6 U4 rfl rfl rfl <| .move rfl .nil) fun Az Hz => ?_
   refine bc Hz 111 ?_ ?_
   ·
    intro hb23 Hz; try simp only [QQ, Qax] at hb23
    refine gz hK5 Hz (.moveZ rfl <| .remZ rfl rfl (by decide) rfl <| .lssZ rfl rfl <| .pickT rfl rfl <| .nil) fun Az Hz => ?_
    refine bc Hz 115 ?_ ?_
    ·
     intro hb28 Hz; try simp only [QQ, Qax] at hb28
     refine wct Hz ?_
     replace Hz := Hz.oz [3, 4, 5, 6, 12, 14]
     have m30 := m16.oz [6, 9, 12, 14]
     refine region_p 15 (B := [(6, _)]) (m30.to ⟨il, trivial⟩) m30 (by kernel_rfl) (fun w31 hP31 m31 => ?_); clear m30
     refine goR hP31 [0, 1, 2, 3, 4, 5, 6, 7, 8, 9, 10] [1, 3, 5, 7] 11 0 2047 Hz (m31.to ⟨il, trivial⟩) (.fa 0 rfl U33 <| .lb hh 6 U3 rfl rfl rfl <| .fa 6 rfl U33 <| .lb hh 6 U3 rfl rfl rfl <| .fa 1 rfl U33 <| .lb hh 6 U3 rfl rfl rfl <| .fa 2 rfl U33 <| .lb hh 6 U3 rfl rfl rfl <| .move rfl <| .move rfl <| .move rfl .nil) fun Az Hz => ?_
     refine so 11 ?_
     refine e_litN Hz m31 100 (k := .u8) rfl rfl U22 fct19 rfl rfl rfl rfl fun g43 Az w44 Hz m44 => ?_
     refine ⟨m44.to ⟨il, trivial⟩, ?_⟩
     have m45 := m44.freezeN 100 rfl
     refine so 12 ?_
     refine ecl Hz Tryz.func61 rfl (sitem_any bl z [xa, xb, xc] _ _ _ ((m45.rd (i := 100) rfl).any) (by simp) (b3 ha9 hb9 hc9) (by omega)) ?_
     rintro e w46 ⟨it, p46, c46, rfl, hit8, hpre9, hitb, hit1, hd46, hb46⟩
     have m47 := m45.callF 101 rfl hb46 hd46
     refine ⟨_, rfl, ?_⟩; intro Az Hz
     refine ⟨m47.to ⟨il, trivial⟩, ?_⟩
     refine goA hP31 [13] 1 8191 16383 Hz (m47.to ⟨il, trivial⟩) (.build rfl fct7 fl81cm rfl (by dsimp only [setL, List.set] <;> rfl) .nil) fun Az Hz => ?_
     refine so 14 ?_
     refine stw Hz m47 14 fct5 fun w50 m50 _ => ?_
     refine ⟨m50.to ⟨il, trivial⟩, ?_⟩
     refine wpAnyE_done (by kernel_rfl) ?_ _
     refine hK4 _ _ ?_
     replace Hz := Hz.oz [12, 14]
     refine zsr fun K6 hK6 => ?_
     refine goCh Hz (.loadBR m50 (i := 14) rfl rfl U81 rfl fct5 (by simp) (by dsimp only [List.drop, List.take] <;> rfl) .nil) fun Az Hz => ?_
     refine plz (stw Hz m50 12 fct5 fun w54 m54 _ => ?_)
     refine znl (hK6 _ _ ?_)
     refine rtd (retC (fn := Tryz.f30) Hz m54 (i := 12) rfl rfl rfl U81 rfl fct5 ?_)
     exact ⟨_, _, _, _, _, _, _, _, _, _, _, (), rfl, by first | assumption | decide, by first | assumption, by first | assumption, m54.outF (i := 101) rfl, m54.below⟩
    intro hb28 Hz; try simp only [QQ, Qax] at hb28
    refine wcf Hz ?_
    refine zss (hK4 _ _ ?_)
    replace Hz := Hz.oz [12, 14]
    refine zsr fun K7 hK7 => ?_
    refine goCh Hz (.loadBR m16 (i := 14) rfl rfl U81 rfl fct5 (by simp) (by dsimp only [List.drop, List.take] <;> rfl) .nil) fun Az Hz => ?_
    refine plz (stw Hz m16 12 fct5 fun w58 m58 _ => ?_)
    refine znl (hK7 _ _ ?_)
    refine rtd (retC (fn := Tryz.f30) Hz m58 (i := 12) rfl rfl rfl U81 rfl fct5 ?_)
    exact ⟨_, _, _, _, _, _, _, _, _, _, _, (), rfl, by first | assumption | decide, by first | assumption, by first | assumption, m58.outF (i := 9) rfl, m58.below⟩
   intro hb23 Hz; try simp only [QQ, Qax] at hb23
   refine gz hK5 Hz (.sk <| .sk <| .sk <| .pickF rfl rfl <| .nil) fun Az Hz => ?_
   refine wcf Hz ?_
   refine zss (hK4 _ _ ?_)
   replace Hz := Hz.oz [12, 14]
   refine zsr fun K8 hK8 => ?_
   refine goCh Hz (.loadBR m16 (i := 14) rfl rfl U81 rfl fct5 (by simp) (by dsimp only [List.drop, List.take] <;> rfl) .nil) fun Az Hz => ?_
   refine plz (stw Hz m16 12 fct5 fun w66 m66 _ => ?_)
   refine znl (hK8 _ _ ?_)
   refine rtd (retC (fn := Tryz.f30) Hz m66 (i := 12) rfl rfl rfl U81 rfl fct5 ?_)
   exact ⟨_, _, _, _, _, _, _, _, _, _, _, (), rfl, by first | assumption | decide, by first | assumption, by first | assumption, m66.outF (i := 9) rfl, m66.below⟩
 replace Hz := Hz.oz [2, 3, 4, 5, 6, 12, 14]
 refine regS Hz (.move rfl <| .rem rfl rfl (by decide) rfl .nil) fun Az Hz => ?_
 refine wp_block ?_
 refine wsk fun K9 hK9 => ?_
 refine regS Hz (.eql rfl rfl <| .assign rfl .nil) fun Az Hz => ?_
 refine bc Hz 39 ?_ ?_
 ·
  intro hb72 Hz; try simp only [QQ, Qax] at hb72
  refine wct Hz ?_
  refine zss (hK9 _ _ ?_)
  refine wct Hz ?_
  refine wp_region_lit ?_
  refine goCh Hz (.fa 1 rfl U33 <| .lb m15 20 U3 rfl rfl rfl <| .fa 2 rfl U33 <| .lb m15 20 U3 rfl rfl rfl <| .move rfl <| .move rfl <| .move rfl .nil) fun Az Hz => ?_
  refine plz (e_litN Hz m15 23 (k := .u8) rfl rfl U22 fct19 rfl rfl rfl rfl fun g80 Az w81 Hz m81 => ?_)
  have m82 := m81.freezeN 23 rfl
  refine plz (ecl Hz Tryz.func61 rfl (sitem_any bl z [xa, xb, xc] _ _ _ ((m82.rd (i := 23) rfl).any) (by simp) (b3 ha9 hb9 hc9) (by omega)) ?_)
  rintro e w83 ⟨it, p83, c83, rfl, hit8, hpre9, hitb, hit1, hd83, hb83⟩
  have m84 := m82.callF 24 rfl hb83 hd83
  refine ⟨_, rfl, ?_⟩; intro Az Hz
  refine goCh Hz (.fieldAddr (off := 0) rfl U81 rfl (s := 0) (by kernel_rfl) rfl .nil) fun Az Hz => ?_
  refine plz (st1 Hz m84 22 fct23 fun w87 m87 _ => ?_)
  refine goCh Hz (.fieldAddr (off := 9) rfl U81 rfl (s := 0) (by kernel_rfl) rfl .nil) fun Az Hz => ?_
  refine plz (st1 Hz m87 22 fct31 fun w89 m89 _ => ?_)
  refine wpList_nil ?_
  show K3 _ _
  exact hC3 _ _ ⟨_, _, _, it, _, _, _, _, _, by decide, hit8, hitb, Hz.only [2, 3, 4, 5, 6, 12, 14], m89.ren [(6, 20), (12, 21), (14, 22), (9, 24)] (by decide)⟩
 intro hb72 Hz; try simp only [QQ, Qax] at hb72
 refine wcf Hz ?_
 refine regS Hz (.eql rfl rfl <| .assign rfl .nil) fun Az Hz => ?_
 refine bc Hz 39 ?_ ?_
 ·
  intro hb92 Hz; try simp only [QQ, Qax] at hb92
  refine wct Hz ?_
  refine zss (hK9 _ _ ?_)
  refine wct Hz ?_
  refine wp_region_lit ?_
  refine goCh Hz (.fa 1 rfl U33 <| .lb m15 20 U3 rfl rfl rfl <| .fa 2 rfl U33 <| .lb m15 20 U3 rfl rfl rfl <| .move rfl <| .move rfl <| .move rfl .nil) fun Az Hz => ?_
  refine plz (e_litN Hz m15 23 (k := .u8) rfl rfl U22 fct19 rfl rfl rfl rfl fun g100 Az w101 Hz m101 => ?_)
  have m102 := m101.freezeN 23 rfl
  refine plz (ecl Hz Tryz.func61 rfl (sitem_any bl z [xa, xb, xc] _ _ _ ((m102.rd (i := 23) rfl).any) (by simp) (b3 ha9 hb9 hc9) (by omega)) ?_)
  rintro e w103 ⟨it, p103, c103, rfl, hit8, hpre9, hitb, hit1, hd103, hb103⟩
  have m104 := m102.callF 24 rfl hb103 hd103
  refine ⟨_, rfl, ?_⟩; intro Az Hz
  refine goCh Hz (.fieldAddr (off := 0) rfl U81 rfl (s := 0) (by kernel_rfl) rfl .nil) fun Az Hz => ?_
  refine plz (st1 Hz m104 22 fct23 fun w107 m107 _ => ?_)
  refine goCh Hz (.fieldAddr (off := 9) rfl U81 rfl (s := 0) (by kernel_rfl) rfl .nil) fun Az Hz => ?_
  refine plz (st1 Hz m107 22 fct31 fun w109 m109 _ => ?_)
  refine wpList_nil ?_
  show K3 _ _
  exact hC3 _ _ ⟨_, _, _, it, _, _, _, _, _, by decide, hit8, hitb, Hz.only [2, 3, 4, 5, 6, 12, 14], m109.ren [(6, 20), (12, 21), (14, 22), (9, 24)] (by decide)⟩
 intro hb92 Hz; try simp only [QQ, Qax] at hb92
 refine wcf Hz ?_
 refine regS Hz (.eql rfl rfl <| .assign rfl .nil) fun Az Hz => ?_
 refine bc Hz 39 ?_ ?_
 ·
  intro hb112 Hz; try simp only [QQ, Qax] at hb112
  refine wct Hz ?_
  refine zss (hK9 _ _ ?_)
  refine wct Hz ?_
  refine wp_region_lit ?_
  refine goCh Hz (.fa 1 rfl U33 <| .lb m15 20 U3 rfl rfl rfl <| .fa 2 rfl U33 <| .lb m15 20 U3 rfl rfl rfl <| .move rfl <| .move rfl <| .move rfl .nil) fun Az Hz => ?_
  refine plz (e_litN Hz m15 23 (k := .u8) rfl rfl U22 fct19 rfl rfl rfl rfl fun g120 Az w121 Hz m121 => ?_)
  have m122 := m121.freezeN 23 rfl
  refine plz (ecl Hz Tryz.func61 rfl (sitem_any bl z [xa, xb, xc] _ _ _ ((m122.rd (i := 23) rfl).any) (by simp) (b3 ha9 hb9 hc9) (by omega)) ?_)
  rintro e w123 ⟨it, p123, c123, rfl, hit8, hpre9, hitb, hit1, hd123, hb123⟩
  have m124 := m122.callF 24 rfl hb123 hd123
  refine ⟨_, rfl, ?_⟩; intro Az Hz
  refine goCh Hz (.fieldAddr (off := 0) rfl U81 rfl (s := 0) (by kernel_rfl) rfl .nil) fun Az Hz => ?_
  refine plz (st1 Hz m124 22 fct23 fun w127 m127 _ => ?_)
  refine goCh Hz (.fieldAddr (off := 9) rfl U81 rfl (s := 0) (by kernel_rfl) rfl .nil) fun Az Hz => ?_
  refine plz (st1 Hz m127 22 fct31 fun w129 m129 _ => ?_)
  refine wpList_nil ?_
  show K3 _ _
  exact hC3 _ _ ⟨_, _, _, it, _, _, _, _, _, by decide, hit8, hitb, Hz.only [2, 3, 4, 5, 6, 12, 14], m129.ren [(6, 20), (12, 21), (14, 22), (9, 24)] (by decide)⟩
 intro hb112 Hz; try simp only [QQ, Qax] at hb112
 refine wcf Hz ?_
 refine wp_region_lit ?_
 refine gz hK9 Hz (.eql rfl rfl <| .assign rfl <| .nil) fun Az Hz => ?_
 refine bc Hz 39 ?_ ?_
 ·
  intro hb132 Hz; try simp only [QQ, Qax] at hb132
  refine wct Hz ?_
  replace Hz := Hz.oz [2, 3, 4, 5, 6, 12, 14, 37]
  refine wp_region_lit ?_
  refine goCh Hz (.fa 1 rfl U33 <| .lb m15 20 U3 rfl rfl rfl <| .fa 2 rfl U33 <| .lb m15 20 U3 rfl rfl rfl <| .move rfl <| .move rfl <| .move rfl .nil) fun Az Hz => ?_
  refine plz (e_litN Hz m15 23 (k := .u8) rfl rfl U22 fct19 rfl rfl rfl rfl fun g141 Az w142 Hz m142 => ?_)
  have m143 := m142.freezeN 23 rfl
  refine plz (ecl Hz Tryz.func61 rfl (sitem_any bl z [xa, xb, xc] _ _ _ ((m143.rd (i := 23) rfl).any) (by simp) (b3 ha9 hb9 hc9) (by omega)) ?_)
  rintro e w144 ⟨it, p144, c144, rfl, hit8, hpre9, hitb, hit1, hd144, hb144⟩
  have m145 := m143.callF 24 rfl hb144 hd144
  refine ⟨_, rfl, ?_⟩; intro Az Hz
  refine goCh Hz (.fieldAddr (off := 0) rfl U81 rfl (s := 0) (by kernel_rfl) rfl .nil) fun Az Hz => ?_
  refine plz (st1 Hz m145 22 fct23 fun w148 m148 _ => ?_)
  refine goCh Hz (.fieldAddr (off := 9) rfl U81 rfl (s := 0) (by kernel_rfl) rfl .nil) fun Az Hz => ?_
  refine plz (st1 Hz m148 22 fct31 fun w150 m150 _ => ?_)
  refine wpList_nil ?_
  show K3 _ _
  exact hC3 _ _ ⟨_, _, _, it, _, _, _, _, _, by decide, hit8, hitb, Hz.only [2, 3, 4, 5, 6, 12, 14], m150.ren [(6, 20), (12, 21), (14, 22), (9, 24)] (by decide)⟩
 intro hb132 Hz; try simp only [QQ, Qax] at hb132
 refine wcf Hz ?_
 replace Hz := Hz.oz [2, 3, 4, 5, 6, 12, 14, 37]
 refine regS Hz (.eql rfl rfl <| .assign rfl .nil) fun Az Hz => ?_
 refine bc Hz 55 ?_ ?_
 ·
  intro hb154 Hz; try simp only [QQ, Qax] at hb154
  refine wct Hz ?_
  have m155 := m15.oz [20, 21, 22]
  refine region_p 10 (B := [(20, _)]) (m155.to ⟨il, trivial⟩) m155 (by kernel_rfl) (fun w156 hP156 m156 => ?_); clear m155
  refine goR hP156 [0, 1, 2, 6] [2] 4 0 71 Hz (m156.to ⟨il, trivial⟩) (.move rfl <| .conv rfl U5 U2 (r := xa) (IntWalk.i64_in _ (by omega)) <| .loadBR hh (i := 20) rfl rfl U33 rfl fct1 (by simp) (by dsimp only [List.drop, List.take] <;> rfl) <| .fa 0 rfl U81 .nil) fun Az Hz => ?_
  refine so 3 ?_
  refine ecb Hz Tryz.func13 rfl m156 (rlen_any _ _ _ _ _ _ _ _ _ _ _ _ _ _ _ _ _ _) fun Az w161 Hz m162 => ?_
  refine ⟨m162.to ⟨il, trivial⟩, ?_⟩
  refine goA hP156 [4, 5] 2 79 127 Hz (m162.to ⟨il, trivial⟩) (.add rfl rfl (r := (nw : Int) + 2) (IntWalk.i64_in _ (by omega)) <| .rem rfl rfl (by omega) rfl .nil) fun Az Hz => ?_
  refine so 7 ?_
  refine st1 Hz m162 22 fct23 fun w166 m166 _ => ?_
  refine ⟨m166.to ⟨il, trivial⟩, ?_⟩
  refine goA hP156 [8] 1 255 511 Hz (m166.to ⟨il, trivial⟩) (.fa 7 rfl U81 .nil) fun Az Hz => ?_
  refine so 9 ?_
  refine st1 Hz m166 22 fct10 fun w168 m168 _ => ?_
  refine ⟨m168.to ⟨il, trivial⟩, ?_⟩
  refine wpAnyE_done (by kernel_rfl) ?_ _
  have m169 := m168.dat 23 rfl (Rd.l0 none 0 2)
  show K3 _ _
  exact hC3 _ _ ⟨_, _, _, [], _, _, _, _, _, by decide, by decide, (fun _ h => by cases h), Hz.only [2, 3, 4, 5, 6, 12, 14], m169.ren [(6, 20), (12, 21), (14, 22), (9, 23)] (by decide)⟩
 intro hb154 Hz; try simp only [QQ, Qax] at hb154
 refine wcf Hz ?_
 refine regS Hz (.eql rfl rfl <| .assign rfl .nil) fun Az Hz => ?_
 refine bc Hz 65 ?_ ?_
 ·
  intro hb172 Hz; try simp only [QQ, Qax] at hb172
  refine wct Hz ?_
  have m173 := m15.oz [20, 21, 22]
  refine region_p 10 (B := [(20, _)]) (m173.to ⟨il, trivial⟩) m173 (by kernel_rfl) (fun w174 hP174 m174 => ?_); clear m173
  refine goR hP174 [0, 1, 2, 6] [2] 4 0 71 Hz (m174.to ⟨il, trivial⟩) (.move rfl <| .conv rfl U5 U2 (r := xa) (IntWalk.i64_in _ (by omega)) <| .loadBR hh (i := 20) rfl rfl U33 rfl fct1 (by simp) (by dsimp only [List.drop, List.take] <;> rfl) <| .fa 0 rfl U81 .nil) fun Az Hz => ?_
  refine so 3 ?_
  refine ecb Hz Tryz.func13 rfl m174 (rlen_any _ _ _ _ _ _ _ _ _ _ _ _ _ _ _ _ _ _) fun Az w179 Hz m180 => ?_
  refine ⟨m180.to ⟨il, trivial⟩, ?_⟩
  refine goA hP174 [4, 5] 2 79 127 Hz (m180.to ⟨il, trivial⟩) (.add rfl rfl (r := (nw : Int) + 2) (IntWalk.i64_in _ (by omega)) <| .rem rfl rfl (by omega) rfl .nil) fun Az Hz => ?_
  refine so 7 ?_
  refine st1 Hz m180 22 fct23 fun w184 m184 _ => ?_
  refine ⟨m184.to ⟨il, trivial⟩, ?_⟩
  refine goA hP174 [8] 1 255 511 Hz (m184.to ⟨il, trivial⟩) (.fa 7 rfl U81 .nil) fun Az Hz => ?_
  refine so 9 ?_
  refine st1 Hz m184 22 fct10 fun w186 m186 _ => ?_
  refine ⟨m186.to ⟨il, trivial⟩, ?_⟩
  refine wpAnyE_done (by kernel_rfl) ?_ _
  have m187 := m186.dat 23 rfl (Rd.l0 none 0 2)
  show K3 _ _
  exact hC3 _ _ ⟨_, _, _, [], _, _, _, _, _, by decide, by decide, (fun _ h => by cases h), Hz.only [2, 3, 4, 5, 6, 12, 14], m187.ren [(6, 20), (12, 21), (14, 22), (9, 23)] (by decide)⟩
 intro hb172 Hz; try simp only [QQ, Qax] at hb172
 refine wcf Hz ?_
 refine regS Hz (.eql rfl rfl <| .assign rfl .nil) fun Az Hz => ?_
 refine bc Hz 75 ?_ ?_
 ·
  intro hb190 Hz; try simp only [QQ, Qax] at hb190
  refine wct Hz ?_
  replace Hz := Hz.oz [2, 3, 4, 5, 6, 12, 14, 37]
  have m192 := m15.oz [20, 21, 22]
  refine region_p 10 (B := [(20, _)]) (m192.to ⟨il, trivial⟩) m192 (by kernel_rfl) (fun w193 hP193 m193 => ?_); clear m192
  refine goR hP193 [0, 1, 2, 6] [2] 4 0 71 Hz (m193.to ⟨il, trivial⟩) (.move rfl <| .conv rfl U5 U2 (r := xa) (IntWalk.i64_in _ (by omega)) <| .loadBR hh (i := 20) rfl rfl U33 rfl fct1 (by simp) (by dsimp only [List.drop, List.take] <;> rfl) <| .fa 0 rfl U81 .nil) fun Az Hz => ?_
  refine so 3 ?_
  refine ecb Hz Tryz.func13 rfl m193 (rlen_any _ _ _ _ _ _ _ _ _ _ _ _ _ _ _ _ _ _) fun Az w198 Hz m199 => ?_
  refine ⟨m199.to ⟨il, trivial⟩, ?_⟩
  refine goA hP193 [4, 5] 2 79 127 Hz (m199.to ⟨il, trivial⟩) (.add rfl rfl (r := (nw : Int) + 2) (IntWalk.i64_in _ (by omega)) <| .rem rfl rfl (by omega) rfl .nil) fun Az Hz => ?_
  refine so 7 ?_
  refine st1 Hz m199 22 fct23 fun w203 m203 _ => ?_
  refine ⟨m203.to ⟨il, trivial⟩, ?_⟩
  refine goA hP193 [8] 1 255 511 Hz (m203.to ⟨il, trivial⟩) (.fa 7 rfl U81 .nil) fun Az Hz => ?_
  refine so 9 ?_
  refine st1 Hz m203 22 fct10 fun w205 m205 _ => ?_
  refine ⟨m205.to ⟨il, trivial⟩, ?_⟩
  refine wpAnyE_done (by kernel_rfl) ?_ _
  have m206 := m205.dat 23 rfl (Rd.l0 none 0 2)
  show K3 _ _
  exact hC3 _ _ ⟨_, _, _, [], _, _, _, _, _, by decide, by decide, (fun _ h => by cases h), Hz.only [2, 3, 4, 5, 6, 12, 14], m206.ren [(6, 20), (12, 21), (14, 22), (9, 23)] (by decide)⟩
 intro hb190 Hz; try simp only [QQ, Qax] at hb190
 refine wcf Hz ?_
 replace Hz := Hz.oz [2, 3, 4, 5, 6, 12, 14, 37]
 refine regS Hz (.eql rfl rfl <| .assign rfl .nil) fun Az Hz => ?_
 refine bc Hz 85 ?_ ?_
 ·
  intro hb210 Hz; try simp only [QQ, Qax] at hb210
  refine wct Hz ?_
  refine wp_region_lit ?_
  refine goCh Hz (.fieldAddr (off := 0) rfl U81 rfl (s := 0) (by kernel_rfl) rfl .nil) fun Az Hz => ?_
  refine plz (st1 Hz m15 22 fct23 fun w212 m212 _ => ?_)
  refine wpList_nil ?_
  have m213 := m212.dat 23 rfl (Rd.l0 none 0 2)
  show K3 _ _
  exact hC3 _ _ ⟨_, _, _, [], _, _, _, _, _, by decide, by decide, (fun _ h => by cases h), Hz.only [2, 3, 4, 5, 6, 12, 14], m213.ren [(6, 20), (12, 21), (14, 22), (9, 23)] (by decide)⟩
 intro hb210 Hz; try simp only [QQ, Qax] at hb210
 refine wcf Hz ?_
 refine regS Hz (.eql rfl rfl <| .assign rfl .nil) fun Az Hz => ?_
 refine bc Hz 88 ?_ ?_
 ·
  intro hb216 Hz; try simp only [QQ, Qax] at hb216
  refine wct Hz ?_
  have m217 := m15.oz [20, 21, 22]
  refine region_p 22 (B := [(20, _)]) (m217.to ⟨il, trivial⟩) m217 (by kernel_rfl) (fun w218 hP218 m218 => ?_); clear m217
  refine goR hP218 [0, 1, 2, 3, 4, 5, 6, 7, 8, 9, 10, 11, 12, 13, 16] [1, 9, 11] 15 0 81919 Hz (m218.to ⟨il, trivial⟩) (.fa 6 rfl U33 <| .lb hh 20 U3 rfl rfl rfl <| .move rfl <| .rem rfl rfl (by decide) (Int.tmod_eq_emod_of_nonneg (by omega)) <| .conv rfl U5 U3 (r := xc % 5) (IntWalk.i64_in _ (by omega)) <| .quo rfl rfl (by decide) (r := xc % 5 / 4) (by rw [Int.tdiv_eq_ediv_of_nonneg (by omega)]; exact IntWalk.i64_in _ (by omega)) <| .sub rfl rfl (r := ne - xc % 5 / 4) (IntWalk.i64_in _ (by omega)) <| .p (fun _ _ h_ => y_max h_ rfl rfl rfl) <| .fa 1 rfl U33 <| .lb hh 20 U3 rfl rfl rfl <| .fa 2 rfl U33 <| .lb hh 20 U3 rfl rfl rfl <| .move rfl <| .move rfl <| .fa 0 rfl U81 .nil) fun Az Hz => ?_
  refine so 14 ?_
  refine e_litN Hz m218 23 (k := .u8) rfl rfl U22 fct19 rfl rfl rfl rfl fun g234 Az w235 Hz m235 => ?_
  refine ⟨m235.to ⟨il, trivial⟩, ?_⟩
  have m236 := m235.freezeN 23 rfl
  refine so 15 ?_
  refine ecl Hz Tryz.func61 rfl (sitem_any bl z [xa, xb] _ _ _ ((m236.rd (i := 23) rfl).any) (by simp) (b2 ha9 hb9) (by omega)) ?_
  rintro e w237 ⟨it, p237, c237, rfl, hit8, hpre9, hitb, hit1, hd237, hb237⟩
  have m238 := m236.callF 24 rfl hb237 hd237
  refine ⟨_, rfl, ?_⟩; intro Az Hz
  refine ⟨m238.to ⟨il, trivial⟩, ?_⟩
  refine so 17 ?_
  refine st1 Hz m238 22 fct23 fun w240 m240 _ => ?_
  refine ⟨m240.to ⟨il, trivial⟩, ?_⟩
  refine goA hP218 [18] 1 262143 524287 Hz (m240.to ⟨il, trivial⟩) (.fa 8 rfl U81 .nil) fun Az Hz => ?_
  refine so 19 ?_
  refine st1 Hz m240 22 fct23 fun w242 m242 _ => ?_
  refine ⟨m242.to ⟨il, trivial⟩, ?_⟩
  refine goA hP218 [20] 1 1048575 2097151 Hz (m242.to ⟨il, trivial⟩) (.fa 9 rfl U81 .nil) fun Az Hz => ?_
  refine so 21 ?_
  refine st1 Hz m242 22 fct31 fun w244 m244 _ => ?_
  refine ⟨m244.to ⟨il, trivial⟩, ?_⟩
  refine wpAnyE_done (by kernel_rfl) ?_ _
  show K3 _ _
  exact hC3 _ _ ⟨_, _, _, it, _, _, _, _, _, by decide, hit8, hitb, Hz.only [2, 3, 4, 5, 6, 12, 14], m244.ren [(6, 20), (12, 21), (14, 22), (9, 24)] (by decide)⟩
 intro hb216 Hz; try simp only [QQ, Qax] at hb216
 refine wcf Hz ?_
 refine wp_region_lit ?_
 refine goCh Hz (.fieldAddr (off := 0) rfl U81 rfl (s := 0) (by kernel_rfl) rfl .nil) fun Az Hz => ?_
 refine plz (st1 Hz m15 22 fct23 fun w246 m246 _ => ?_)
 refine wpList_nil ?_
 have m247 := m246.dat 23 rfl (Rd.l0 none 0 2)
 show K3 _ _
 exact hC3 _ _ ⟨_, _, _, [], _, _, _, _, _, by decide, by decide, (fun _ h => by cases h), Hz.only [2, 3, 4, 5, 6, 12, 14], m247.ren [(6, 20), (12, 21), (14, 22), (9, 23)] (by decide)⟩
end
section
abbrev PI := Int × List Int
abbrev PWr := Int × List PI
theorem pinspre_iff {fl : Int} {n : Nat} {pins : List Int} : PinsPre fl n pins pins.length ↔ pins.Pairwise (· ≤ ·) ∧ ∀ p ∈ pins, fl ≤ p ∧ p ≤ n := by
 constructor
 · intro h
   have hadj : ∀ j, j + 1 < pins.length → pins.getD j 0 ≤ pins.getD (j + 1) 0 := fun j hj => (h (j + 1) hj).1
   have hmono : ∀ d i, i + d < pins.length → pins.getD i 0 ≤ pins.getD (i + d) 0 := by
     intro d
     induction d with
     | zero => intro i _; exact Int.le_refl _
     | succ d ih => intro i hi; have h1 := ih i (by omega); have h2 := hadj (i + d) (by omega); rw [Nat.add_assoc] at h2; omega
   refine ⟨List.pairwise_iff_getElem.2 (fun i j hi hj hij => ?_), fun p hp => ?_⟩
   · have h1 := hmono (j - i) i (by omega)
     rw [show i + (j - i) = j by omega, List.getD, List.getD, List.getElem?_eq_getElem hi, List.getElem?_eq_getElem hj] at h1
     exact h1
   obtain ⟨j, hj, rfl⟩ := List.getElem_of_mem hp
   have h0 : fl ≤ pins.getD 0 0 := (h 0 (by omega)).1
   have h1 := hmono j 0 (by omega)
   have h2 := (h j hj).2
   rw [Nat.zero_add] at h1
   rw [show pins[j] = pins.getD j 0 by rw [List.getD, List.getElem?_eq_getElem hj]; rfl]
   omega
 rintro ⟨h1, h2⟩ j hj
 have hm : pins.getD j 0 ∈ pins := getD_mem hj
 refine ⟨?_, (h2 _ hm).2⟩
 cases j with
 | zero => exact (h2 _ hm).1
 | succ j =>
   show pins.getD j 0 ≤ pins.getD (j + 1) 0
   rw [List.getD, List.getD, List.getElem?_eq_getElem (by omega), List.getElem?_eq_getElem hj]
   exact List.pairwise_iff_getElem.1 h1 j (j + 1) (by omega) hj (by omega)
theorem lowL_le {n : Nat} {pins : List Int} : lowL n pins ≤ n ∧ ∀ p ∈ pins, lowL n pins ≤ p := by
 unfold lowL
 have key : ∀ (l : List Int) (x : Int), l.foldl min x ≤ x ∧ ∀ p ∈ l, l.foldl min x ≤ p := by
   intro l
   induction l with
   | nil => intro x; exact ⟨Int.le_refl _, fun p hp => by cases hp⟩
   | cons y r ih =>
     intro x
     obtain ⟨h1, h2⟩ := ih (min x y)
     refine ⟨by simp only [List.foldl_cons]; omega, fun p hp => ?_⟩
     simp only [List.foldl_cons]
     rcases List.mem_cons.1 hp with rfl | hp
     · omega
     exact h2 p hp
 exact key pins n
theorem wrpre_app2 {bl sz : Int} {ws : List PWr} {it : List PI} (h : WrPre bl sz ws ws.length) (hI : ItemsR bl sz it) : WrPre bl sz (ws ++ [((ws.length : Int) + 1, it)]) (ws.length + 1) := fun j hj => by
 rcases Nat.lt_or_ge j ws.length with h1 | h1
 · have h2 := h j h1
   rw [show (ws ++ [((ws.length : Int) + 1, it)]).getD j w1 = ws.getD j w1 by simp [List.getD, List.getElem?_append, h1]]
   exact h2
 obtain rfl : j = ws.length := by omega
 rw [show (ws ++ [((ws.length : Int) + 1, it)]).getD ws.length w1 = ((ws.length : Int) + 1, it) by simp [List.getD]]
 exact ⟨rfl, hI⟩
section
variable {vo bl sz pe to ne fl : Int} {hi : Bool} {place pins : List Int} {ws : List PWr}
theorem VolR.sorted (h : VolR vo bl sz pe to ne fl hi place pins ws) : pins.Pairwise (· ≤ ·) := by
 obtain ⟨h1, h2, h3, h4, h5, h6, h7, h8, h9⟩ := h
 exact (pinspre_iff.1 h8).1
theorem VolR.write (h : VolR vo bl sz pe to ne fl hi place pins ws) {it : List PI} (hI : ItemsR bl sz it) : VolR vo bl sz pe to ne fl hi place pins (ws ++ [((ws.length : Int) + 1, it)]) := by
 obtain ⟨h1, h2, h3, h4, h5, h6, h7, h8, h9⟩ := h
 refine ⟨h1, h2, h3, h4, h5, h6, by rw [List.length_append]; simp; omega, ?_, by rw [List.length_append]; exact wrpre_app2 h9 hI⟩
 obtain ⟨g1, g2⟩ := pinspre_iff.1 h8
 exact pinspre_iff.2 ⟨g1, fun p hp => by have := g2 p hp; rw [List.length_append]; simp; omega⟩
theorem VolR.do (h : VolR vo bl sz pe to ne fl hi place pins ws) (hh : hi = true → pins = []) {kd at0 ix : Int} {it : List PI} {ne' fl' e9 : Int} {hi' : Bool} {ws' : List PWr} (hd : doR bl sz to ne fl hi pins ws kd at0 ix it = (ne', hi', fl', ws', e9)) :
   VolR vo bl sz pe to ne' fl' hi' place pins ws' ∧ (hi' = true → pins = []) ∧ ws'.length ≤ ws.length + 1 := by
 have hsame : VolR vo bl sz pe to ne fl hi place pins ws ∧ (hi = true → pins = []) ∧ ws.length ≤ ws.length + 1 := ⟨h, hh, by omega⟩
 unfold doR at hd
 split at hd
 · unfold putR at hd
   split at hd
   · simp only [Prod.mk.injEq] at hd; obtain ⟨rfl, rfl, rfl, rfl, rfl⟩ := hd; exact hsame
   unfold wrR at hd
   split at hd
   · rename_i hI
     simp only [Prod.mk.injEq] at hd; obtain ⟨rfl, rfl, rfl, rfl, rfl⟩ := hd
     exact ⟨h.write hI, hh, by simp⟩
   simp only [Prod.mk.injEq] at hd; obtain ⟨rfl, rfl, rfl, rfl, rfl⟩ := hd; exact hsame
 split at hd
 · unfold pruneR at hd
   split at hd
   · rename_i hr
     simp only [Prod.mk.injEq] at hd; obtain ⟨rfl, rfl, rfl, rfl, rfl⟩ := hd
     unfold reachR at hr
     split at hr
     · cases hr
     split at hr
     · cases hr
     split at hr
     · cases hr
     rename_i a1 a2 a3
     obtain ⟨h1, h2, h3, h4, h5, h6, h7, h8, h9⟩ := h
     have hl := @lowL_le ws.length pins
     obtain ⟨g1, g2⟩ := pinspre_iff.1 h8
     exact ⟨⟨h1, h2, h3, h4, h5, by omega, by omega, pinspre_iff.2 ⟨g1, fun p hp => by have b1 := hl.2 p hp; have b2 := g2 p hp; omega⟩, h9⟩, hh, by omega⟩
   simp only [Prod.mk.injEq] at hd; obtain ⟨rfl, rfl, rfl, rfl, rfl⟩ := hd; exact hsame
 split at hd
 · unfold takeR at hd
   split at hd
   · simp only [Prod.mk.injEq] at hd; obtain ⟨rfl, rfl, rfl, rfl, rfl⟩ := hd; exact hsame
   split at hd
   · simp only [Prod.mk.injEq] at hd; obtain ⟨rfl, rfl, rfl, rfl, rfl⟩ := hd; exact hsame
   split at hd
   · simp only [Prod.mk.injEq] at hd; obtain ⟨rfl, rfl, rfl, rfl, rfl⟩ := hd; exact hsame
   rename_i b1 b2 b3
   by_cases hI : ItemsR bl sz it
   · rw [show wrR bl sz ws it = (ws ++ [((ws.length : Int) + 1, it)], 0) from by rw [wrR, if_pos hI]] at hd
     rw [if_pos rfl] at hd
     simp only [Prod.mk.injEq] at hd; obtain ⟨rfl, rfl, rfl, rfl, rfl⟩ := hd
     obtain ⟨h1, h2, h3, h4, h5, h6, h7, h8, h9⟩ := h.write hI
     refine ⟨⟨h1, by omega, ?_, h4, fun e => absurd e b1, h6, h7, h8, h9⟩, hh, by simp⟩
     have : ne ≠ to := fun e => b3 (.inr e)
     omega
   rw [show wrR bl sz ws it = (ws, 23) from by rw [wrR, if_neg hI]] at hd
   rw [if_neg (by simp)] at hd
   simp only [Prod.mk.injEq] at hd; obtain ⟨rfl, rfl, rfl, rfl, rfl⟩ := hd; exact hsame
 split at hd
 · unfold publishR at hd
   split at hd
   · simp only [Prod.mk.injEq] at hd; obtain ⟨rfl, rfl, rfl, rfl, rfl⟩ := hd; exact hsame
   rename_i b1
   simp only [Prod.mk.injEq] at hd; obtain ⟨rfl, rfl, rfl, rfl, rfl⟩ := hd
   obtain ⟨h1, h2, h3, h4, h5, h6, h7, h8, h9⟩ := h
   have e1 : hi = true := by cases hi with | true => rfl | false => exact absurd (.inl rfl) b1
   have e2 : ne = to := by
     by_cases e : ne = to
     · exact e
     exact absurd (.inr e) b1
   have e3 := hh e1
   subst e3
   exact ⟨⟨h1, h2, h3, (fun e => by cases e), (fun _ => e2), by omega, by omega, (fun j hj => by simp at hj), h9⟩, (fun e => by cases e), by omega⟩
 split at hd
 · simp only [Prod.mk.injEq] at hd; obtain ⟨rfl, rfl, rfl, rfl, rfl⟩ := hd; exact hsame
 simp only [Prod.mk.injEq] at hd; obtain ⟨rfl, rfl, rfl, rfl, rfl⟩ := hd; exact hsame
theorem VolR.pin (h : VolR vo bl sz pe to ne fl hi place pins ws) (hh : hi = true → pins = []) {at0 e9 : Int} {pins' : List Int} (hd : pinR hi fl at0 ws.length pins = (pins', e9)) :
   VolR vo bl sz pe to ne fl hi place pins' ws ∧ (hi = true → pins' = []) ∧ pins'.length ≤ pins.length + 1 := by
 unfold pinR at hd
 split at hd
 · rename_i hr
   simp only [Prod.mk.injEq] at hd; obtain ⟨rfl, rfl⟩ := hd
   unfold reachR at hr
   split at hr
   · cases hr
   split at hr
   · cases hr
   split at hr
   · cases hr
   rename_i a1 a2 a3
   obtain ⟨h1, h2, h3, h4, h5, h6, h7, h8, h9⟩ := h
   obtain ⟨g1, g2⟩ := pinspre_iff.1 h8
   refine ⟨⟨h1, h2, h3, h4, h5, h6, h7, pinspre_iff.2 ⟨sortP_sorted _, fun p hp => ?_⟩, h9⟩, fun e => absurd e a1, by simp [sortP]⟩
   rw [sortP, List.mem_mergeSort] at hp
   rcases List.mem_append.1 hp with hp | hp
   · exact g2 p hp
   simp at hp; subst hp; omega
 simp only [Prod.mk.injEq] at hd; obtain ⟨rfl, rfl⟩ := hd
 exact ⟨h, hh, by omega⟩
theorem VolR.unpin (h : VolR vo bl sz pe to ne fl hi place pins ws) (hh : hi = true → pins = []) {at0 e9 : Int} {pins' : List Int} (hd : unpinR hi at0 pins = (pins', e9)) :
   VolR vo bl sz pe to ne fl hi place pins' ws ∧ (hi = true → pins' = []) ∧ pins'.length ≤ pins.length + 1 := by
 unfold unpinR at hd
 split at hd
 · simp only [Prod.mk.injEq] at hd; obtain ⟨rfl, rfl⟩ := hd
   exact ⟨h, hh, by omega⟩
 rename_i b1
 simp only [Prod.mk.injEq] at hd; obtain ⟨rfl, rfl⟩ := hd
 obtain ⟨h1, h2, h3, h4, h5, h6, h7, h8, h9⟩ := h
 obtain ⟨g1, g2⟩ := pinspre_iff.1 h8
 have hs : (pins.take (Lib.idxOf pins at0).toNat ++ pins.drop ((Lib.idxOf pins at0).toNat + 1)).Sublist pins := by
   rw [← List.eraseIdx_eq_take_drop_succ]; exact List.eraseIdx_sublist _ _
 exact ⟨⟨h1, h2, h3, h4, h5, h6, h7, pinspre_iff.2 ⟨g1.sublist hs, fun p hp => g2 p (hs.subset hp)⟩, h9⟩, fun e => absurd (.inl e) b1, by have := hs.length_le; omega⟩
theorem VolR.its (h : VolR vo bl sz pe to ne fl hi place pins ws) : WrsOk ws ∧ (∀ e ∈ ws, e.2.length ≤ 8) := by
 obtain ⟨⟨a1, a2, a3, a4, a5, a6, a7⟩, h2, h3, h4, h5, h6, h7, h8, h9⟩ := h
 have key : ∀ e ∈ ws, e.2.length ≤ 8 ∧ ∀ x ∈ e.2, x.2.length ≤ 32 := fun e he => by
   obtain ⟨j, hj, rfl⟩ := List.getElem_of_mem he
   have h10 := (h9 j hj).2
   rw [List.getD, List.getElem?_eq_getElem hj] at h10
   refine ⟨h10.2.1, fun x hx => ?_⟩
   obtain ⟨i, hi, rfl⟩ := List.getElem_of_mem hx
   have h11 := (h10.2.2 i hi).2.2.1
   simp only [Option.getD_some] at h11
   rw [List.getD, List.getElem?_eq_getElem hi] at h11
   simp only [Option.getD_some] at h11
   omega
 exact ⟨fun e he => ⟨Nat.le_trans (key e he).1 (by decide), fun x hx => Nat.le_trans ((key e he).2 x hx) (by decide)⟩, fun e he => (key e he).1⟩
theorem VolR.new {vo bl sz pe to : Int} {place : List Int} (hN : NewOk vo bl sz pe to place) : VolR vo bl sz pe to 0 0 (decide (0 < to)) place [] [] := by
 have hN' := hN
 obtain ⟨h1, h2, h3, h4, h5, h6, h7, h8, h9, h10, h11⟩ := hN'
 exact ⟨hN, by omega, by omega, (fun e => by simp at e; omega), (fun e => by simp at e; omega), by omega, by simp, (fun j hj => by simp at hj), (fun j hj => by simp at hj)⟩
end
end
section
theorem flatten_put {α : Type} {mm : Nat} (vs : List α) (hv : vs.length = mm) : ∀ (cs : List (List α)) (J : Nat), (∀ c ∈ cs, c.length = mm) → J < cs.length → cs.flatten.take (J * mm) ++ vs ++ cs.flatten.drop (J * mm + mm) = (cs.set J vs).flatten
 | [], J, _, h => by simp at h
 | a :: cs, 0, hc, h => by
   have ha := hc a (by simp)
   rw [List.set_cons_zero, List.flatten_cons, List.flatten_cons, Nat.zero_mul, Nat.zero_add, List.take_zero, List.nil_append, List.drop_left' ha]
 | a :: cs, J + 1, hc, h => by
   have ha := hc a (by simp)
   have ih := flatten_put vs hv cs J (fun c h => hc c (by simp [h])) (by simpa using h)
   have e1 : (J + 1) * mm = a.length + J * mm := by rw [ha, Nat.add_mul]; omega
   rw [List.set_cons_succ, List.flatten_cons, List.flatten_cons, ← ih, e1, Nat.add_assoc, List.take_append, List.drop_append, List.take_of_length_le (by omega), List.drop_of_length_le (by omega)]
   rw [show a.length + J * mm - a.length = J * mm by omega, show a.length + (J * mm + mm) - a.length = J * mm + mm by omega]
   simp
section
variable {P : Program} {n : Nat} {T : List (Nat × Value)} {a : Act} {w w0 : World} {X : Cx} {M : Mm} {tt : TypeId} {pos : String} {af : Array Edge} {gd : Option (Nat × Bool)} {Q : Exit → Act → World → Prop} {K : Act → World → Prop}
end
end
section
structure VolV where
 vo : Int
 bl : Int
 sz : Int
 pe : Int
 place : List Int
 to : Int
 ne : Int
 hi : Bool
 fl : Int
 pins : List Int
 ws : List PWr
def volD (x : VolV) : List D := [.v (.int .i64 x.vo), .v (.int .i64 x.bl), .v (.int .i64 x.sz), .v (.int .i64 x.pe), .ns .i64 x.place, .v (.int .i64 x.to), .v (.int .i64 x.ne), .v (.bool x.hi), .v (.int .i64 x.fl), .ns .i64 x.pins, .l 2 (x.ws.map wrD)]
theorem volD_get {L : List VolV} {k : Nat} {x : VolV} (h : L[k]? = some x) : (L.map volD)[k]? = some [.v (.int .i64 x.vo), .v (.int .i64 x.bl), .v (.int .i64 x.sz), .v (.int .i64 x.pe), .ns .i64 x.place, .v (.int .i64 x.to), .v (.int .i64 x.ne), .v (.bool x.hi), .v (.int .i64 x.fl), .ns .i64 x.pins, .l 2 (x.ws.map wrD)] := by simp [h, volD]
def WBy (ws : List PWr) : Prop := ∀ e ∈ ws, ∀ x ∈ e.2, BytesL x.2
theorem WBy.snoc {ws : List PWr} {s : Int} {it : List PI} (h : WBy ws) (hi : ∀ e ∈ it, BytesL e.2) : WBy (ws ++ [(s, it)]) := fun e he => by
 rcases List.mem_append.1 he with h1 | h1
 · exact h e h1
 rw [List.mem_singleton.1 h1]; exact hi
theorem doR_by {bl sz to ne fl : Int} {hi : Bool} {pins : List Int} {ws : List PWr} {kd at0 ix : Int} {it : List PI} {ne' fl' e9 : Int} {hi' : Bool} {ws' : List PWr} (h : doR bl sz to ne fl hi pins ws kd at0 ix it = (ne', hi', fl', ws', e9)) (hw : WBy ws) (hb : ∀ e ∈ it, BytesL e.2) : WBy ws' := by
 unfold doR putR pruneR takeR publishR wrR at h
 repeat' split at h
 all_goals (simp only [Prod.mk.injEq] at h; obtain ⟨-, -, -, rfl, -⟩ := h; first | exact hw | exact hw.snoc hb)
def VolS (n : Nat) (x : VolV) : Prop := VolR x.vo x.bl x.sz x.pe x.to x.ne x.fl x.hi x.place x.pins x.ws ∧ (x.hi = true → x.pins = []) ∧ x.pins.length ≤ n ∧ x.ws.length ≤ n ∧ WBy x.ws
theorem VolS.up {n m : Nat} {x : VolV} (h : VolS n x) (hm : n ≤ m) : VolS m x := ⟨h.1, h.2.1, by have := h.2.2.1; omega, by have := h.2.2.2.1; omega, h.2.2.2.2⟩
def MacS (n : Nat) (L : List VolV) : Prop := L.length ≤ n ∧ ∀ x ∈ L, VolS n x
theorem MacS.set {n : Nat} {L : List VolV} {x : VolV} (h : MacS n L) (hx : VolS (n + 1) x) (k : Nat) : MacS (n + 1) (L.set k x) := ⟨by rw [List.length_set]; have := h.1; omega, fun y hy => by
 rcases List.mem_or_eq_of_mem_set hy with hy | rfl
 · exact (h.2 y hy).up (by omega)
 exact hx⟩
theorem MacS.ins {n : Nat} {L : List VolV} {x : VolV} (h : MacS n L) (hx : VolS (n + 1) x) (k : Nat) : MacS (n + 1) (L.take k ++ [x] ++ L.drop k) := ⟨by simp only [List.length_append, List.length_take, List.length_drop, List.length_singleton]; have := h.1; omega, fun y hy => by
 rcases List.mem_append.1 hy with hy | hy
 · rcases List.mem_append.1 hy with hy | hy
   · exact (h.2 y (List.mem_of_mem_take hy)).up (by omega)
   rw [List.mem_singleton.1 hy]; exact hx
 exact (h.2 y (List.mem_of_mem_drop hy)).up (by omega)⟩
theorem MacS.up {n m : Nat} {L : List VolV} (h : MacS n L) (hm : n ≤ m) : MacS m L := ⟨by have := h.1; omega, fun x hx => (h.2 x hx).up hm⟩
set_option maxRecDepth 100000
set_option maxHeartbeats 4000000
theorem rfind (X : Cx) (B : Nat) (L : List VolV) (p : Option Addr) (c : Nat) (vo : Int) (w0 : World) (hl : L.length ≤ 1000000) (m0 : MemOk X w0 [(1, .box B 75 [.slice p (L.map volD).length c]), (2, .dat (.slice p (L.map volD).length c) (.l 11 (L.map volD)))] w0) :
   Calls Tryz.prog 56 #[.pointer (some ⟨B, 0, none⟩), .int .i64 vo] w0 fun e w' => ∃ j : Int, e = .returned (.int .i64 j) ∧ -1 ≤ j ∧ j < L.length ∧ MemOk X w0 [(1, .box B 75 [.slice p (L.map volD).length c]), (2, .dat (.slice p (L.map volD).length c) (.l 11 (L.map volD)))] w' := by
 refine ent2 Tryz.func56 rfl Tryz.ntmps56 fun Az Hz => ?_
 refine regS Hz (.assign rfl .nil) fun Az Hz => ?_
 refine wsk fun K0 hK0 => ?_
 refine regS Hz (.assign rfl .nil) fun Az Hz => ?_
 refine wp_block ?_
 refine wp_loop_ghost (fun g a w => ∃ (k : Nat), k ≤ L.length ∧ g = L.length - k ∧ Has 26 [(0, .pointer (some ⟨B, 0, none⟩)), (1, .int .i64 vo), (5, .int .i64 k)] a ∧ MemOk X w0 [(1, .box B 75 [.slice p (L.map volD).length c]), (2, .dat (.slice p (L.map volD).length c) (.l 11 (L.map volD)))] w) (L.length) ?_ ?_
 · exact ⟨0, Nat.zero_le _, rfl, Hz.only [0, 1, 5], m0.only [1, 2]⟩
 clear Hz m0
 rintro g Az w3 ⟨k, hkl, hg, Hz, m3⟩
 refine wsk fun K1 hK1 => ?_
 refine regS Hz (.move rfl <| .move rfl <| .nilCheck rfl <| .fa 0 rfl U75 <| .lb m3 1 U73 rfl rfl rfl <| .len rfl U73 <| .lss rfl rfl .nil) fun Az Hz => ?_
 refine bc Hz 12 ?_ ?_
 ·
  intro hb11 Hz; try simp only [QQ, Qax] at hb11
  have hk : k < L.length := by have := hb11; simp at this; omega
  obtain ⟨x, hes⟩ : ∃ x, L[k]? = some x := ⟨_, List.getElem?_eq_getElem (by simpa using hk)⟩
  refine wct Hz ?_
  refine zss (hK1 _ _ ?_)
  refine wsk fun K2 hK2 => ?_
  refine wp_block ?_
  replace Hz := Hz.oz [0, 1, 5]
  refine zsr fun K3 hK3 => ?_
  refine goCh Hz (.move rfl <| .nilCheck rfl <| .fa 0 rfl U75 <| .lb m3 1 U73 rfl rfl rfl <| .move rfl .nil) fun Az Hz => ?_
  obtain ⟨b24, o24, vs24, hp24, hR24, ho24, m24⟩ := m3.openR (i := 2) rfl (k) (r := [.v (.int .i64 x.vo), .v (.int .i64 x.bl), .v (.int .i64 x.sz), .v (.int .i64 x.pe), .ns .i64 x.place, .v (.int .i64 x.to), .v (.int .i64 x.ne), .v (.bool x.hi), .v (.int .i64 x.fl), .ns .i64 x.pins, .l 2 (x.ws.map wrD)]) (volD_get hes) 100 rfl
  revert Hz
  cases hp24; clear m3 ho24
  rcases hR24 with _ | ⟨hd24_0, _ | ⟨hd24_1, _ | ⟨hd24_2, _ | ⟨hd24_3, _ | ⟨hd24_4, _ | ⟨hd24_5, _ | ⟨hd24_6, _ | ⟨hd24_7, _ | ⟨hd24_8, _ | ⟨hd24_9, _ | ⟨hd24_10, _ | _⟩⟩⟩⟩⟩⟩⟩⟩⟩⟩⟩
  obtain rfl := hd24_0.v_out
  clear hd24_0
  obtain rfl := hd24_1.v_out
  clear hd24_1
  obtain rfl := hd24_2.v_out
  clear hd24_2
  obtain rfl := hd24_3.v_out
  clear hd24_3
  obtain ⟨p25, c25, hv25, hc25⟩ := hd24_4.ns_shape; subst hv25
  intro Hz
  have m25 := m24.dat 101 rfl (hd24_4.cast (fun _ h => (free_add rfl h))); clear m24 hd24_4
  revert Hz
  obtain rfl := hd24_5.v_out
  clear hd24_5
  obtain rfl := hd24_6.v_out
  clear hd24_6
  obtain rfl := hd24_7.v_out
  clear hd24_7
  obtain rfl := hd24_8.v_out
  clear hd24_8
  obtain ⟨p26, c26, hv26, hc26⟩ := hd24_9.ns_shape; subst hv26
  intro Hz
  have m26 := m25.dat 102 rfl (hd24_9.cast (fun _ h => (free_add rfl (free_add rfl h)))); clear m25 hd24_9
  revert Hz
  obtain ⟨p27, c27, hv27, hc27⟩ := hd24_10.l_shape; subst hv27
  intro Hz
  have m27 := m26.dat 103 rfl (hd24_10.cast (fun _ h => (free_add rfl (free_add rfl (free_add rfl h))))); clear m26 hd24_10
  refine gz hK3 Hz (.c rfl (fun _ h_ => y_idx h_ rfl rfl U73 fct1 (k) rfl (by simpa using hk)) <| .fieldAddrQ 0 rfl U33 rfl (s := 0) (by kernel_rfl) rfl <| .loadC0 m27 (i := 100) rfl rfl U3 rfl <| .move rfl <| .eql rfl rfl <| .nil) fun Az Hz => ?_
  refine bc Hz 24 ?_ ?_
  ·
   intro hb33 Hz; try simp only [QQ, Qax] at hb33
   refine wct Hz ?_
   replace Hz := Hz.oz [0, 1, 5]
   refine regS Hz (.move rfl <| .assign rfl .nil) fun Az Hz => ?_
   refine rt1 Hz ?_
   first | exact ⟨k, rfl, by omega, by omega, m27.only [1, 2]⟩ | exact ⟨-1, rfl, by omega, by omega, m27.only [1, 2]⟩
  intro hb33 Hz; try simp only [QQ, Qax] at hb33
  refine wcf Hz ?_
  refine zss (hK2 _ _ ?_)
  replace Hz := Hz.oz [0, 1, 5]
  refine wp_region_lit ?_
  refine goCh Hz (.move rfl <| .inc (k + 1) <| .assign rfl .nil) fun Az Hz => ?_
  refine wpList_nil ?_
  show ∃ n', n' < _ ∧ _
  exact ⟨L.length - (k + 1), by omega, k + 1, by omega, rfl, Hz.only [0, 1, 5], m27.only [1, 2]⟩
 intro hb11 Hz; try simp only [QQ, Qax] at hb11
 refine wcf Hz ?_
 refine wp_exit ?_
 refine hK0 _ _ ?_
 replace Hz := Hz.oz [0, 1, 5]
 refine regS Hz (.assign rfl .nil) fun Az Hz => ?_
 refine rt1 Hz ?_
 first | exact ⟨k, rfl, by omega, by omega, m3.only [1, 2]⟩ | exact ⟨-1, rfl, by omega, by omega, m3.only [1, 2]⟩
theorem rDoAny (X : Cx) (x : VolV) (n : Nat) (hx : VolS n x) (hn : n ≤ 800000) (items : List (Int × List Int)) (pp pn pw : Option Addr) (cp cn9 cw : Nat) (pi : Option Addr) (ci : Nat) (kd v1 v2 v3 v4 v5 at0 ix : Int) (q1 : Option Addr) (n1 c1 : Nat) (w0 : World) (hil : items.length ≤ 1000000) (hio : ItsOk items) (hiy : ∀ e ∈ items, BytesL e.2) (m0 : MemOk X w0 [(1, .dat (.slice pp x.place.length cp) (.ns .i64 x.place)), (2, .dat (.slice pn x.pins.length cn9) (.ns .i64 x.pins)), (3, .dat (.slice pw (x.ws.map wrD).length cw) (.l 2 (x.ws.map wrD))), (4, .dat (.slice pi (items.map itD).length ci) (.l 2 (items.map itD)))] w0) :
   Calls Tryz.prog 63 #[.agg #[.int .i64 x.vo, .int .i64 x.bl, .int .i64 x.sz, .int .i64 x.pe, .slice pp x.place.length cp, .int .i64 x.to, .int .i64 x.ne, .bool x.hi, .int .i64 x.fl, .slice pn x.pins.length cn9, .slice pw (x.ws.map wrD).length cw], .agg #[.int .i64 kd, .int .i64 v1, .int .i64 v2, .int .i64 v3, .int .i64 v4, .slice q1 n1 c1, .int .i64 v5, .int .i64 at0, .int .i64 ix, .slice pi (items.map itD).length ci]] w0 fun e w' => ∃ (y : VolV) (e9 rl rf rn : Int) (p1 p2 p3 : Option Addr) (d1 d2 d3 : Nat), e = .returned (.tuple #[.agg #[.int .i64 y.vo, .int .i64 y.bl, .int .i64 y.sz, .int .i64 y.pe, .slice p1 y.place.length d1, .int .i64 y.to, .int .i64 y.ne, .bool y.hi, .int .i64 y.fl, .slice p2 y.pins.length d2, .slice p3 (y.ws.map wrD).length d3], .agg #[.int .i64 e9, .int .i64 rl, .int .i64 rf, .int .i64 rn, .slice none 0 0]]) ∧ y.vo = x.vo ∧ VolS (n + 1) y ∧ MemOk X w0 [(1, .dat (.slice p1 y.place.length d1) (.ns .i64 y.place)), (2, .dat (.slice p2 y.pins.length d2) (.ns .i64 y.pins)), (3, .dat (.slice p3 (y.ws.map wrD).length d3) (.l 2 (y.ws.map wrD)))] w' := by
 obtain ⟨h1, h2, h3, h4, h5⟩ := hx
 obtain ⟨vo, bl, sz, pe, place, to, ne, hi, fl, pins, ws⟩ := x
 simp only at *
 have hI : (items.map itD).length = items.length := List.length_map ..
 rw [hI] at m0 ⊢
 have hne : -1000000000000000 ≤ ne ∧ ne ≤ 1000000000000000 := by
   obtain ⟨⟨a1, a2, a3, a4, a5, a6, a7, a8, a9, a10, a11⟩, b1, b2, b3⟩ := h1
   omega
 by_cases k4 : kd = 4
 · subst k4
   refine (rDo4 X vo bl sz pe to ne fl hi place pins ws pp pn pw cp cn9 cw v1 v2 v3 v4 v5 at0 ix q1 n1 c1 pi items.length ci w0 (by omega) h1.sorted (m0.only [1, 2, 3])).mono ?_
   rintro e w' ⟨pins', e9, rl, rf, rn, p2, d2, rfl, hd, hr, m⟩
   obtain ⟨g1, g2, g3⟩ := h1.pin h2 hd
   exact ⟨⟨vo, bl, sz, pe, place, to, ne, hi, fl, pins', ws⟩, e9, rl, rf, rn, _, _, _, _, _, _, rfl, rfl, ⟨g1, g2, by simp only; omega, by simp only; omega, h5⟩, m.ren [(1, 1), (2, 6), (3, 3)] (by decide)⟩
 by_cases k5 : kd = 5
 · subst k5
   refine (rDo5 X vo bl sz pe to ne fl hi place pins ws pp pn pw cp cn9 cw v1 v2 v3 v4 v5 at0 ix q1 n1 c1 pi items.length ci w0 (by omega) (m0.only [1, 2, 3])).mono ?_
   rintro e w' ⟨pins', e9, rl, rf, rn, p2, d2, rfl, hd, hr, m⟩
   obtain ⟨g1, g2, g3⟩ := h1.unpin h2 hd
   exact ⟨⟨vo, bl, sz, pe, place, to, ne, hi, fl, pins', ws⟩, e9, rl, rf, rn, _, _, _, _, _, _, rfl, rfl, ⟨g1, g2, by simp only; omega, by simp only; omega, h5⟩, m.ren [(1, 1), (2, 6), (3, 3)] (by decide)⟩
 refine (rDo X vo bl sz pe to ne fl hi place pins ws items pp pn pw cp cn9 cw pi ci kd v1 v2 v3 v4 v5 at0 ix q1 n1 c1 w0 k4 k5 hne (by omega) (by omega) hil hio m0).mono ?_
 rintro e w' ⟨ne', hi', fl', ws', e9, rl, rf, rn, p3, d3, rfl, hd, hr, m⟩
 obtain ⟨g1, g2, g3⟩ := h1.do h2 hd
 exact ⟨⟨vo, bl, sz, pe, place, to, ne', hi', fl', pins, ws'⟩, e9, rl, rf, rn, _, _, _, _, _, _, rfl, rfl, ⟨g1, g2, by simp only; omega, by simp only; omega, doR_by hd h5 hiy⟩, m.ren [(1, 1), (2, 2), (3, 7)] (by decide)⟩
end
section
theorem snoc32 {l : List (Int × List Int)} {k : Nat} {xb : Int} {xd : List Int} (h : ∀ j, j < k → (l.getD j i0).2.length ≤ 32) (hes : l[k]? = some (xb, xd)) (hk : xd.length ≤ 32) : ∀ j, j < k + 1 → (l.getD j i0).2.length ≤ 32 := fun j hj => by
 rcases Nat.lt_or_ge j k with h1 | h1
 · exact h j h1
 obtain rfl : j = k := by omega
 rw [getI hes]; exact hk
theorem all32 {l : List (Int × List Int)} (h : ∀ j, j < l.length → (l.getD j i0).2.length ≤ 32) : ∀ e ∈ l, e.2.length ≤ 32 := fun e he => by
 obtain ⟨j, hj, rfl⟩ := List.getElem_of_mem he
 have := h j hj
 rwa [List.getD, List.getElem?_eq_getElem hj] at this
set_option maxRecDepth 100000
set_option maxHeartbeats 4000000
theorem within16 (n : Int) (w0 : World) : Calls Tryz.prog 86 #[.int .i64 n] w0 fun e w' => ∃ b : Bool, e = .returned (.bool b) ∧ Below w0.heap.size w0 w' := by
 refine ent1 Tryz.func86 rfl Tryz.ntmps86 fun Az Hz => ?_
 have m0 := MemOk.start (fun _ => False) w0
 refine regS Hz (.assign rfl .nil) fun Az Hz => ?_
 refine zsr fun K0 hK0 => ?_
 refine goCh Hz (.move rfl <| .geq rfl rfl <| .move rfl .nil) fun Az Hz => ?_
 refine bc Hz 5 ?_ ?_
 ·
  intro hb8 Hz; try simp only [QQ, Qax] at hb8
  refine gz hK0 Hz (.moveZ rfl <| .leqZ rfl rfl <| .pickT rfl rfl <| .assign rfl <| .nil) fun Az Hz => ?_
  refine rt1 Hz ?_
  exact ⟨_, rfl, m0.below⟩
 intro hb8 Hz; try simp only [QQ, Qax] at hb8
 refine gz hK0 Hz (.sk <| .sk <| .pickF rfl rfl <| .assign rfl <| .nil) fun Az Hz => ?_
 refine rt1 Hz ?_
 exact ⟨_, rfl, m0.below⟩
theorem rcmdRight (kd vo bl sz pe to at0 ix : Int) (place : List Int) (items : List (Int × List Int)) (pp pi : Option Addr) (cp ni ci : Nat) (w0 : World) (h0 : Rd (fun _ => True) w0 (.slice pp place.length cp) (.ns .i64 place)) (h1 : Rd (fun _ => True) w0 (.slice pi ni ci) (.l 2 (items.map itD))) (hp : place.length ≤ 1000000) (hl : items.length ≤ 1000000) :
   Calls Tryz.prog 57 #[.agg #[.int .i64 kd, .int .i64 vo, .int .i64 bl, .int .i64 sz, .int .i64 pe, .slice pp place.length cp, .int .i64 to, .int .i64 at0, .int .i64 ix, .slice pi ni ci]] w0 fun e w' => ∃ b : Bool, e = .returned (.bool b) ∧ (b = true → place.length ≤ 256 ∧ items.length ≤ 8 ∧ ∀ e ∈ items, e.2.length ≤ 32) ∧ Below w0.heap.size w0 w' := by
 obtain rfl : ni = items.length := by obtain ⟨pq, c9, hv, _⟩ := h1.l_shape; injection hv with _ e2 _; rw [List.length_map] at e2; exact e2
 refine ent1 Tryz.func57 rfl Tryz.ntmps57 fun Az Hz => ?_
 have m0 := MemOk.start (fun _ => False) w0
 refine zsr fun K0 hK0 => ?_
 refine plz (e_box Hz m0 20 (cs := [_, _, _, _, _, _, _, _, _, _]) rfl rfl rfl fun g1 Az w2 Hz m2 _ _ => ?_)
 refine gz hK0 Hz (.assign rfl .nil) fun Az Hz => ?_
 refine wsk fun K1 hK1 => ?_
 refine zsr fun K2 hK2 => ?_
 refine goCh Hz (.fa 0 rfl U81 <| .lb m2 20 U3 rfl rfl rfl <| .lss rfl rfl <| .move rfl .nil) fun Az Hz => ?_
 refine bc Hz 8 ?_ ?_
 ·
  intro hb12 Hz; try simp only [QQ, Qax] at hb12
  refine gz hK2 Hz (.sk <| .sk <| .sk <| .pickT rfl rfl <| .move rfl <| .sk <| .sk <| .sk <| .pickT rfl rfl <| .move rfl <| .sk <| .sk <| .sk <| .pickT rfl rfl <| .move rfl <| .sk <| .sk <| .sk <| .sk <| .pickT rfl rfl <| .move rfl <| .sk <| .sk <| .sk <| .sk <| .pickT rfl rfl <| .move rfl <| .sk <| .sk <| .sk <| .sk <| .pickT rfl rfl <| .move rfl <| .sk <| .sk <| .sk <| .sk <| .pickT rfl rfl <| .move rfl <| .sk <| .sk <| .sk <| .sk <| .pickT rfl rfl <| .move rfl <| .sk <| .sk <| .sk <| .sk <| .pickT rfl rfl <| .move rfl <| .sk <| .sk <| .sk <| .sk <| .pickT rfl rfl <| .move rfl <| .sk <| .sk <| .sk <| .sk <| .pickT rfl rfl <| .nil) fun Az Hz => ?_
  refine wct Hz ?_
  replace Hz := Hz.oz [1, 2]
  refine regS Hz (.assign rfl .nil) fun Az Hz => ?_
  refine rt1 Hz ?_
  exact ⟨false, rfl, (fun h => by cases h), m2.below⟩
 intro hb12 Hz; try simp only [QQ, Qax] at hb12
 refine goCh Hz (.faZ 0 rfl U81 <| .loadB1Z m2 (i := 20) rfl rfl rfl U3 rfl <| .gtrZ rfl rfl <| .pickF rfl rfl <| .move rfl .nil) fun Az Hz => ?_
 refine bc Hz 13 ?_ ?_
 ·
  intro hb82 Hz; try simp only [QQ, Qax] at hb82
  refine gz hK2 Hz (.sk <| .sk <| .sk <| .pickT rfl rfl <| .move rfl <| .sk <| .sk <| .sk <| .pickT rfl rfl <| .move rfl <| .sk <| .sk <| .sk <| .sk <| .pickT rfl rfl <| .move rfl <| .sk <| .sk <| .sk <| .sk <| .pickT rfl rfl <| .move rfl <| .sk <| .sk <| .sk <| .sk <| .pickT rfl rfl <| .move rfl <| .sk <| .sk <| .sk <| .sk <| .pickT rfl rfl <| .move rfl <| .sk <| .sk <| .sk <| .sk <| .pickT rfl rfl <| .move rfl <| .sk <| .sk <| .sk <| .sk <| .pickT rfl rfl <| .move rfl <| .sk <| .sk <| .sk <| .sk <| .pickT rfl rfl <| .move rfl <| .sk <| .sk <| .sk <| .sk <| .pickT rfl rfl <| .nil) fun Az Hz => ?_
  refine wct Hz ?_
  replace Hz := Hz.oz [1, 2]
  refine regS Hz (.assign rfl .nil) fun Az Hz => ?_
  refine rt1 Hz ?_
  exact ⟨false, rfl, (fun h => by cases h), m2.below⟩
 intro hb82 Hz; try simp only [QQ, Qax] at hb82
 refine goCh Hz (.faZ 1 rfl U81 <| .loadB1Z m2 (i := 20) rfl rfl rfl U3 rfl <| .lssZ rfl rfl <| .pickF rfl rfl <| .move rfl .nil) fun Az Hz => ?_
 refine bc Hz 18 ?_ ?_
 ·
  intro hb147 Hz; try simp only [QQ, Qax] at hb147
  refine gz hK2 Hz (.sk <| .sk <| .sk <| .pickT rfl rfl <| .move rfl <| .sk <| .sk <| .sk <| .sk <| .pickT rfl rfl <| .move rfl <| .sk <| .sk <| .sk <| .sk <| .pickT rfl rfl <| .move rfl <| .sk <| .sk <| .sk <| .sk <| .pickT rfl rfl <| .move rfl <| .sk <| .sk <| .sk <| .sk <| .pickT rfl rfl <| .move rfl <| .sk <| .sk <| .sk <| .sk <| .pickT rfl rfl <| .move rfl <| .sk <| .sk <| .sk <| .sk <| .pickT rfl rfl <| .move rfl <| .sk <| .sk <| .sk <| .sk <| .pickT rfl rfl <| .move rfl <| .sk <| .sk <| .sk <| .sk <| .pickT rfl rfl <| .nil) fun Az Hz => ?_
  refine wct Hz ?_
  replace Hz := Hz.oz [1, 2]
  refine regS Hz (.assign rfl .nil) fun Az Hz => ?_
  refine rt1 Hz ?_
  exact ⟨false, rfl, (fun h => by cases h), m2.below⟩
 intro hb147 Hz; try simp only [QQ, Qax] at hb147
 refine goCh Hz (.faZ 1 rfl U81 <| .loadB1Z m2 (i := 20) rfl rfl rfl U3 rfl <| .geqZ rfl rfl <| .pickF rfl rfl <| .move rfl .nil) fun Az Hz => ?_
 refine bc Hz 23 ?_ ?_
 ·
  intro hb207 Hz; try simp only [QQ, Qax] at hb207
  refine gz hK2 Hz (.sk <| .sk <| .sk <| .sk <| .pickT rfl rfl <| .move rfl <| .sk <| .sk <| .sk <| .sk <| .pickT rfl rfl <| .move rfl <| .sk <| .sk <| .sk <| .sk <| .pickT rfl rfl <| .move rfl <| .sk <| .sk <| .sk <| .sk <| .pickT rfl rfl <| .move rfl <| .sk <| .sk <| .sk <| .sk <| .pickT rfl rfl <| .move rfl <| .sk <| .sk <| .sk <| .sk <| .pickT rfl rfl <| .move rfl <| .sk <| .sk <| .sk <| .sk <| .pickT rfl rfl <| .move rfl <| .sk <| .sk <| .sk <| .sk <| .pickT rfl rfl <| .nil) fun Az Hz => ?_
  refine wct Hz ?_
  replace Hz := Hz.oz [1, 2]
  refine regS Hz (.assign rfl .nil) fun Az Hz => ?_
  refine rt1 Hz ?_
  exact ⟨false, rfl, (fun h => by cases h), m2.below⟩
 intro hb207 Hz; try simp only [QQ, Qax] at hb207
 refine goCh Hz (.faZ 2 rfl U81 <| .loadB1Z m2 (i := 20) rfl rfl rfl U3 rfl .nil) fun Az Hz => ?_
 refine stz Hz (ecl Hz Tryz.func86 rfl (within16 _ _) ?_)
 rintro e w259 ⟨wb259, rfl, hb259⟩
 have m260 := m2.later hb259
 refine ⟨_, rfl, ?_⟩; intro Az Hz
 refine goCh Hz (.notZ rfl <| .pickF rfl rfl <| .move rfl .nil) fun Az Hz => ?_
 refine bc Hz 29 ?_ ?_
 ·
  intro hb265 Hz; try simp only [QQ, Qax] at hb265
  refine gz hK2 Hz (.sk <| .sk <| .sk <| .sk <| .pickT rfl rfl <| .move rfl <| .sk <| .sk <| .sk <| .sk <| .pickT rfl rfl <| .move rfl <| .sk <| .sk <| .sk <| .sk <| .pickT rfl rfl <| .move rfl <| .sk <| .sk <| .sk <| .sk <| .pickT rfl rfl <| .move rfl <| .sk <| .sk <| .sk <| .sk <| .pickT rfl rfl <| .move rfl <| .sk <| .sk <| .sk <| .sk <| .pickT rfl rfl <| .move rfl <| .sk <| .sk <| .sk <| .sk <| .pickT rfl rfl <| .nil) fun Az Hz => ?_
  refine wct Hz ?_
  replace Hz := Hz.oz [1, 2]
  refine regS Hz (.assign rfl .nil) fun Az Hz => ?_
  refine rt1 Hz ?_
  exact ⟨false, rfl, (fun h => by cases h), m260.below⟩
 intro hb265 Hz; try simp only [QQ, Qax] at hb265
 refine goCh Hz (.faZ 3 rfl U81 <| .loadB1Z m260 (i := 20) rfl rfl rfl U3 rfl .nil) fun Az Hz => ?_
 refine stz Hz (ecl Hz Tryz.func86 rfl (within16 _ _) ?_)
 rintro e w311 ⟨wb311, rfl, hb311⟩
 have m312 := m260.later hb311
 refine ⟨_, rfl, ?_⟩; intro Az Hz
 refine goCh Hz (.notZ rfl <| .pickF rfl rfl <| .move rfl .nil) fun Az Hz => ?_
 refine bc Hz 35 ?_ ?_
 ·
  intro hb317 Hz; try simp only [QQ, Qax] at hb317
  refine gz hK2 Hz (.sk <| .sk <| .sk <| .sk <| .pickT rfl rfl <| .move rfl <| .sk <| .sk <| .sk <| .sk <| .pickT rfl rfl <| .move rfl <| .sk <| .sk <| .sk <| .sk <| .pickT rfl rfl <| .move rfl <| .sk <| .sk <| .sk <| .sk <| .pickT rfl rfl <| .move rfl <| .sk <| .sk <| .sk <| .sk <| .pickT rfl rfl <| .move rfl <| .sk <| .sk <| .sk <| .sk <| .pickT rfl rfl <| .nil) fun Az Hz => ?_
  refine wct Hz ?_
  replace Hz := Hz.oz [1, 2]
  refine regS Hz (.assign rfl .nil) fun Az Hz => ?_
  refine rt1 Hz ?_
  exact ⟨false, rfl, (fun h => by cases h), m312.below⟩
 intro hb317 Hz; try simp only [QQ, Qax] at hb317
 refine goCh Hz (.faZ 4 rfl U81 <| .loadB1Z m312 (i := 20) rfl rfl rfl U3 rfl .nil) fun Az Hz => ?_
 refine stz Hz (ecl Hz Tryz.func86 rfl (within16 _ _) ?_)
 rintro e w357 ⟨wb357, rfl, hb357⟩
 have m358 := m312.later hb357
 refine ⟨_, rfl, ?_⟩; intro Az Hz
 refine goCh Hz (.notZ rfl <| .pickF rfl rfl <| .move rfl .nil) fun Az Hz => ?_
 refine bc Hz 41 ?_ ?_
 ·
  intro hb363 Hz; try simp only [QQ, Qax] at hb363
  refine gz hK2 Hz (.sk <| .sk <| .sk <| .sk <| .pickT rfl rfl <| .move rfl <| .sk <| .sk <| .sk <| .sk <| .pickT rfl rfl <| .move rfl <| .sk <| .sk <| .sk <| .sk <| .pickT rfl rfl <| .move rfl <| .sk <| .sk <| .sk <| .sk <| .pickT rfl rfl <| .move rfl <| .sk <| .sk <| .sk <| .sk <| .pickT rfl rfl <| .nil) fun Az Hz => ?_
  refine wct Hz ?_
  replace Hz := Hz.oz [1, 2]
  refine regS Hz (.assign rfl .nil) fun Az Hz => ?_
  refine rt1 Hz ?_
  exact ⟨false, rfl, (fun h => by cases h), m358.below⟩
 intro hb363 Hz; try simp only [QQ, Qax] at hb363
 refine goCh Hz (.faZ 6 rfl U81 <| .loadB1Z m358 (i := 20) rfl rfl rfl U3 rfl .nil) fun Az Hz => ?_
 refine stz Hz (ecl Hz Tryz.func86 rfl (within16 _ _) ?_)
 rintro e w397 ⟨wb397, rfl, hb397⟩
 have m398 := m358.later hb397
 refine ⟨_, rfl, ?_⟩; intro Az Hz
 refine goCh Hz (.notZ rfl <| .pickF rfl rfl <| .move rfl .nil) fun Az Hz => ?_
 refine bc Hz 47 ?_ ?_
 ·
  intro hb403 Hz; try simp only [QQ, Qax] at hb403
  refine gz hK2 Hz (.sk <| .sk <| .sk <| .sk <| .pickT rfl rfl <| .move rfl <| .sk <| .sk <| .sk <| .sk <| .pickT rfl rfl <| .move rfl <| .sk <| .sk <| .sk <| .sk <| .pickT rfl rfl <| .move rfl <| .sk <| .sk <| .sk <| .sk <| .pickT rfl rfl <| .nil) fun Az Hz => ?_
  refine wct Hz ?_
  replace Hz := Hz.oz [1, 2]
  refine regS Hz (.assign rfl .nil) fun Az Hz => ?_
  refine rt1 Hz ?_
  exact ⟨false, rfl, (fun h => by cases h), m398.below⟩
 intro hb403 Hz; try simp only [QQ, Qax] at hb403
 refine goCh Hz (.faZ 8 rfl U81 <| .loadB1Z m398 (i := 20) rfl rfl rfl U3 rfl .nil) fun Az Hz => ?_
 refine stz Hz (ecl Hz Tryz.func86 rfl (within16 _ _) ?_)
 rintro e w431 ⟨wb431, rfl, hb431⟩
 have m432 := m398.later hb431
 refine ⟨_, rfl, ?_⟩; intro Az Hz
 refine goCh Hz (.notZ rfl <| .pickF rfl rfl <| .move rfl .nil) fun Az Hz => ?_
 refine bc Hz 53 ?_ ?_
 ·
  intro hb437 Hz; try simp only [QQ, Qax] at hb437
  refine gz hK2 Hz (.sk <| .sk <| .sk <| .sk <| .pickT rfl rfl <| .move rfl <| .sk <| .sk <| .sk <| .sk <| .pickT rfl rfl <| .move rfl <| .sk <| .sk <| .sk <| .sk <| .pickT rfl rfl <| .nil) fun Az Hz => ?_
  refine wct Hz ?_
  replace Hz := Hz.oz [1, 2]
  refine regS Hz (.assign rfl .nil) fun Az Hz => ?_
  refine rt1 Hz ?_
  exact ⟨false, rfl, (fun h => by cases h), m432.below⟩
 intro hb437 Hz; try simp only [QQ, Qax] at hb437
 refine goCh Hz (.faZ 7 rfl U81 <| .loadB1Z m432 (i := 20) rfl rfl rfl U2 rfl .nil) fun Az Hz => ?_
 refine stz Hz (ecl Hz Tryz.func86 rfl (within16 _ _) ?_)
 rintro e w459 ⟨wb459, rfl, hb459⟩
 have m460 := m432.later hb459
 refine ⟨_, rfl, ?_⟩; intro Az Hz
 refine goCh Hz (.notZ rfl <| .pickF rfl rfl <| .move rfl .nil) fun Az Hz => ?_
 refine bc Hz 59 ?_ ?_
 ·
  intro hb465 Hz; try simp only [QQ, Qax] at hb465
  refine gz hK2 Hz (.sk <| .sk <| .sk <| .sk <| .pickT rfl rfl <| .move rfl <| .sk <| .sk <| .sk <| .sk <| .pickT rfl rfl <| .nil) fun Az Hz => ?_
  refine wct Hz ?_
  replace Hz := Hz.oz [1, 2]
  refine regS Hz (.assign rfl .nil) fun Az Hz => ?_
  refine rt1 Hz ?_
  exact ⟨false, rfl, (fun h => by cases h), m460.below⟩
 intro hb465 Hz; try simp only [QQ, Qax] at hb465
 refine goCh Hz (.faZ 5 rfl U81 <| .loadB1Z m460 (i := 20) rfl rfl rfl U29 rfl <| .lenZ rfl U29 <| .gtrZ rfl rfl <| .pickF rfl rfl <| .move rfl .nil) fun Az Hz => ?_
 refine bc Hz 65 ?_ ?_
 ·
  intro hb485 Hz; try simp only [QQ, Qax] at hb485
  refine gz hK2 Hz (.sk <| .sk <| .sk <| .sk <| .pickT rfl rfl <| .nil) fun Az Hz => ?_
  refine wct Hz ?_
  replace Hz := Hz.oz [1, 2]
  refine regS Hz (.assign rfl .nil) fun Az Hz => ?_
  refine rt1 Hz ?_
  exact ⟨false, rfl, (fun h => by cases h), m460.below⟩
 intro hb485 Hz; try simp only [QQ, Qax] at hb485
 refine gz hK2 Hz (.faZ 9 rfl U81 <| .loadB1Z m460 (i := 20) rfl rfl rfl U40 rfl <| .lenZ rfl U40 <| .gtrZ rfl rfl <| .pickF rfl rfl <| .nil) fun Az Hz => ?_
 refine bc Hz 70 ?_ ?_
 ·
  intro hb498 Hz; try simp only [QQ, Qax] at hb498
  refine wct Hz ?_
  replace Hz := Hz.oz [1, 2]
  refine regS Hz (.assign rfl .nil) fun Az Hz => ?_
  refine rt1 Hz ?_
  exact ⟨false, rfl, (fun h => by cases h), m460.below⟩
 intro hb498 Hz; try simp only [QQ, Qax] at hb498
 refine wcf Hz ?_
 refine zss (hK1 _ _ ?_)
 refine wsk fun K3 hK3 => ?_
 replace Hz := Hz.oz [1, 2]
 refine regS Hz (.assign rfl .nil) fun Az Hz => ?_
 refine wp_block ?_
 refine wp_loop_ghost (fun g a w => ∃ (k B : Nat), k ≤ place.length ∧ g = place.length - k ∧ Has 125 [(1, .pointer (some ⟨B, 0, none⟩)), (3, .int .i64 k)] a ∧ MemOk (cn w0) w0 [(9, .box B 81 [.int .i64 kd, .int .i64 vo, .int .i64 bl, .int .i64 sz, .int .i64 pe, .slice pp place.length cp, .int .i64 to, .int .i64 at0, .int .i64 ix, .slice pi items.length ci])] w) (place.length) ?_ ?_
 · exact ⟨0, _, Nat.zero_le _, rfl, Hz.only [1, 3], m460.ren [(9, 20)] (by decide)⟩
 clear Hz m460
 rintro g Az w503 ⟨k, B, hkl, hg, Hz, m503⟩
 refine wsk fun K4 hK4 => ?_
 refine regS Hz (.move rfl <| .fa 5 rfl U81 <| .lb m503 9 U29 rfl rfl rfl <| .len rfl U29 <| .lss rfl rfl .nil) fun Az Hz => ?_
 refine bc Hz 75 ?_ ?_
 ·
  intro hb509 Hz; try simp only [QQ, Qax] at hb509
  have hk : k < place.length := by omega
  refine wct Hz ?_
  refine zss (hK4 _ _ ?_)
  refine wsk fun K5 hK5 => ?_
  refine wp_block ?_
  refine zsr fun K6 hK6 => ?_
  refine goCh Hz (.fa 5 rfl U81 <| .lb m503 9 U29 rfl rfl rfl <| .move rfl .nil) fun Az Hz => ?_
  obtain ⟨gx517, ox517, hp517, hl517, hrg517⟩ := h0.extN (k) hk
  revert Hz
  cases hp517
  intro Hz
  refine goCh Hz (.c rfl (fun _ h_ => y_idx h_ rfl rfl U29 fct23 (k) rfl hk) <| .loadAt1 (hrg517 m503 rfl) (q := 0) rfl rfl rfl U3 rfl <| .lss rfl rfl <| .move rfl .nil) fun Az Hz => ?_
  refine bc Hz 84 ?_ ?_
  ·
   intro hb522 Hz; try simp only [QQ, Qax] at hb522
   refine gz hK6 Hz (.sk <| .sk <| .sk <| .sk <| .sk <| .sk <| .pickT rfl rfl <| .nil) fun Az Hz => ?_
   refine wct Hz ?_
   replace Hz := Hz.oz [1, 3]
   refine regS Hz (.assign rfl .nil) fun Az Hz => ?_
   refine rt1 Hz ?_
   exact ⟨false, rfl, (fun h => by cases h), m503.below⟩
  intro hb522 Hz; try simp only [QQ, Qax] at hb522
  refine goCh Hz (.faZ 5 rfl U81 <| .loadB1Z m503 (i := 9) rfl rfl rfl U29 rfl <| .moveZ rfl .nil) fun Az Hz => ?_
  obtain ⟨gx535, ox535, hp535, hl535, hrg535⟩ := h0.extN (k) hk
  revert Hz
  cases hp535
  intro Hz
  refine gz hK6 Hz (.g rfl rfl rfl rfl (fun _ h_ => y_idx h_ rfl rfl U29 fct23 (k) rfl hk) <| .loadAt1Z (hrg535 m503 rfl) (q := 0) rfl rfl rfl U3 rfl <| .geqZ rfl rfl <| .pickF rfl rfl <| .nil) fun Az Hz => ?_
  refine bc Hz 91 ?_ ?_
  ·
   intro hb540 Hz; try simp only [QQ, Qax] at hb540
   refine wct Hz ?_
   replace Hz := Hz.oz [1, 3]
   refine regS Hz (.assign rfl .nil) fun Az Hz => ?_
   refine rt1 Hz ?_
   exact ⟨false, rfl, (fun h => by cases h), m503.below⟩
  intro hb540 Hz; try simp only [QQ, Qax] at hb540
  refine wcf Hz ?_
  refine zss (hK5 _ _ ?_)
  replace Hz := Hz.oz [1, 3]
  refine wp_region_lit ?_
  refine goCh Hz (.move rfl <| .inc (k + 1) <| .assign rfl .nil) fun Az Hz => ?_
  refine wpList_nil ?_
  show ∃ n', n' < _ ∧ _
  exact ⟨place.length - (k + 1), by omega, k + 1, _, by omega, rfl, Hz.only [1, 3], m503.only [9]⟩
 intro hb509 Hz; try simp only [QQ, Qax] at hb509
 refine wcf Hz ?_
 refine wp_exit ?_
 refine hK3 _ _ ?_
 refine wsk fun K7 hK7 => ?_
 refine regS Hz (.assign rfl .nil) fun Az Hz => ?_
 refine wp_block ?_
 refine wp_loop_ghost (fun g a w => ∃ (k B : Nat), k ≤ items.length ∧ g = items.length - k ∧ (∀ j, j < k → (items.getD j i0).2.length ≤ 32) ∧ Has 125 [(1, .pointer (some ⟨B, 0, none⟩)), (4, .int .i64 k)] a ∧ MemOk (cn w0) w0 [(9, .box B 81 [.int .i64 kd, .int .i64 vo, .int .i64 bl, .int .i64 sz, .int .i64 pe, .slice pp place.length cp, .int .i64 to, .int .i64 at0, .int .i64 ix, .slice pi items.length ci])] w) (items.length) ?_ ?_
 · exact ⟨0, _, Nat.zero_le _, rfl, (fun j hj => by omega), Hz.only [1, 4], m503.ren [(9, 9)] (by decide)⟩
 clear Hz m503
 rintro g Az w548 ⟨k, B, hkl, hg, hall, Hz, m548⟩
 refine wsk fun K8 hK8 => ?_
 refine regS Hz (.move rfl <| .fa 9 rfl U81 <| .lb m548 9 U40 rfl rfl rfl <| .len rfl U40 <| .lss rfl rfl .nil) fun Az Hz => ?_
 refine bc Hz 96 ?_ ?_
 ·
  intro hb554 Hz; try simp only [QQ, Qax] at hb554
  have hk : k < items.length := by omega
  obtain ⟨⟨xb, xd⟩, hes⟩ : ∃ e, items[k]? = some e := ⟨_, List.getElem?_eq_getElem hk⟩
  refine wct Hz ?_
  refine zss (hK8 _ _ ?_)
  refine wsk fun K9 hK9 => ?_
  refine wp_block ?_
  refine zsr fun K10 hK10 => ?_
  refine goCh Hz (.fa 9 rfl U81 <| .lb m548 9 U40 rfl rfl rfl <| .move rfl .nil) fun Az Hz => ?_
  obtain ⟨gx562, ox562, vx562, hp562, hl562, hR562, hrg562⟩ := h1.extA (k) (r := [.v (.int .i64 xb), .ns .u8 xd]) (itD_get hes)
  revert Hz
  cases hp562
  rcases hR562 with _ | ⟨hd562_0, _ | ⟨hd562_1, _ | _⟩⟩
  obtain rfl := hd562_0.v_out
  clear hd562_0
  obtain ⟨p563, c563, hv563, hw563⟩ := hd562_1.ns_shape; subst hv563
  intro Hz
  refine goCh Hz (.c rfl (fun _ h_ => y_idx h_ rfl rfl U40 fct16 (k) rfl hk) <| .fieldAddrQ 0 rfl U111 rfl (s := 0) (by kernel_rfl) rfl <| .loadAt1 (hrg562 m548 rfl) (q := 0) rfl rfl rfl U3 rfl <| .lss rfl rfl <| .move rfl .nil) fun Az Hz => ?_
  refine bc Hz 106 ?_ ?_
  ·
   intro hb569 Hz; try simp only [QQ, Qax] at hb569
   refine gz hK10 Hz (.sk <| .sk <| .sk <| .sk <| .sk <| .sk <| .sk <| .pickT rfl rfl <| .move rfl <| .sk <| .sk <| .sk <| .sk <| .sk <| .sk <| .sk <| .sk <| .pickT rfl rfl <| .nil) fun Az Hz => ?_
   refine wct Hz ?_
   replace Hz := Hz.oz [1, 4]
   refine regS Hz (.assign rfl .nil) fun Az Hz => ?_
   refine rt1 Hz ?_
   exact ⟨false, rfl, (fun h => by cases h), m548.below⟩
  intro hb569 Hz; try simp only [QQ, Qax] at hb569
  refine goCh Hz (.faZ 9 rfl U81 <| .loadB1Z m548 (i := 9) rfl rfl rfl U40 rfl <| .moveZ rfl .nil) fun Az Hz => ?_
  obtain ⟨gx593, ox593, vx593, hp593, hl593, hR593, hrg593⟩ := h1.extA (k) (r := [.v (.int .i64 xb), .ns .u8 xd]) (itD_get hes)
  revert Hz
  cases hp593
  rcases hR593 with _ | ⟨hd593_0, _ | ⟨hd593_1, _ | _⟩⟩
  obtain rfl := hd593_0.v_out
  clear hd593_0
  obtain ⟨p594, c594, hv594, hw594⟩ := hd593_1.ns_shape; subst hv594
  intro Hz
  refine goCh Hz (.g rfl rfl rfl rfl (fun _ h_ => y_idx h_ rfl rfl U40 fct16 (k) rfl hk) <| .fieldAddrQZ 0 rfl U111 rfl (s := 0) (by kernel_rfl) rfl <| .loadAt1Z (hrg593 m548 rfl) (q := 0) rfl rfl rfl U3 rfl <| .geqZ rfl rfl <| .pickF rfl rfl <| .move rfl .nil) fun Az Hz => ?_
  refine bc Hz 115 ?_ ?_
  ·
   intro hb601 Hz; try simp only [QQ, Qax] at hb601
   refine gz hK10 Hz (.sk <| .sk <| .sk <| .sk <| .sk <| .sk <| .sk <| .sk <| .pickT rfl rfl <| .nil) fun Az Hz => ?_
   refine wct Hz ?_
   replace Hz := Hz.oz [1, 4]
   refine regS Hz (.assign rfl .nil) fun Az Hz => ?_
   refine rt1 Hz ?_
   exact ⟨false, rfl, (fun h => by cases h), m548.below⟩
  intro hb601 Hz; try simp only [QQ, Qax] at hb601
  refine goCh Hz (.faZ 9 rfl U81 <| .loadB1Z m548 (i := 9) rfl rfl rfl U40 rfl <| .moveZ rfl .nil) fun Az Hz => ?_
  obtain ⟨gx616, ox616, vx616, hp616, hl616, hR616, hrg616⟩ := h1.extA (k) (r := [.v (.int .i64 xb), .ns .u8 xd]) (itD_get hes)
  revert Hz
  cases hp616
  rcases hR616 with _ | ⟨hd616_0, _ | ⟨hd616_1, _ | _⟩⟩
  obtain rfl := hd616_0.v_out
  clear hd616_0
  obtain ⟨p617, c617, hv617, hw617⟩ := hd616_1.ns_shape; subst hv617
  intro Hz
  refine gz hK10 Hz (.g rfl rfl rfl rfl (fun _ h_ => y_idx h_ rfl rfl U40 fct16 (k) rfl hk) <| .fieldAddrQZ 1 rfl U111 rfl (s := 0) (by kernel_rfl) rfl <| .loadAt1Z (hrg616 m548 rfl) (q := 1) rfl rfl rfl U22 rfl <| .lenZ rfl U22 <| .gtrZ rfl rfl <| .pickF rfl rfl <| .nil) fun Az Hz => ?_
  refine bc Hz 124 ?_ ?_
  ·
   intro hb624 Hz; try simp only [QQ, Qax] at hb624
   refine wct Hz ?_
   replace Hz := Hz.oz [1, 4]
   refine regS Hz (.assign rfl .nil) fun Az Hz => ?_
   refine rt1 Hz ?_
   exact ⟨false, rfl, (fun h => by cases h), m548.below⟩
  intro hb624 Hz; try simp only [QQ, Qax] at hb624
  refine wcf Hz ?_
  refine zss (hK9 _ _ ?_)
  replace Hz := Hz.oz [1, 4]
  refine wp_region_lit ?_
  refine goCh Hz (.move rfl <| .inc (k + 1) <| .assign rfl .nil) fun Az Hz => ?_
  refine wpList_nil ?_
  show ∃ n', n' < _ ∧ _
  exact ⟨items.length - (k + 1), by omega, k + 1, _, by omega, rfl, snoc32 hall hes (by omega), Hz.only [1, 4], m548.only [9]⟩
 intro hb554 Hz; try simp only [QQ, Qax] at hb554
 have hk9 : k = items.length := by omega
 refine wcf Hz ?_
 refine wp_exit ?_
 refine hK7 _ _ ?_
 refine regS Hz (.assign rfl .nil) fun Az Hz => ?_
 refine rt1 Hz ?_
 exact ⟨true, rfl, (fun _ => ⟨by omega, by omega, all32 (by rw [hk9] at hall; exact hall)⟩), m548.below⟩
end
section
set_option maxRecDepth 100000
set_option maxHeartbeats 4000000
theorem rputCmd (kd vo bl sz pe to at0 ix : Int) (place : List Int) (items : List (Int × List Int)) (pp pi : Option Addr) (cp ni ci : Nat) (w0 : World) (h0 : Rd (fun _ => True) w0 (.slice pp place.length cp) (.ns .i64 place)) (h1 : Rd (fun _ => True) w0 (.slice pi ni ci) (.l 2 (items.map itD))) (hp : place.length ≤ 1000000) (hl : items.length ≤ 1000000) (hib : ∀ e ∈ items, BytesL e.2) :
   Calls Tryz.prog 29 #[.agg #[.int .i64 kd, .int .i64 vo, .int .i64 bl, .int .i64 sz, .int .i64 pe, .slice pp place.length cp, .int .i64 to, .int .i64 at0, .int .i64 ix, .slice pi ni ci]] w0 fun e w' => ∃ (b : List Int) (p : Option Addr) (c : Nat) (e9 : Int), e = .returned (.tuple #[.slice p b.length c, .int .i64 e9]) ∧ b.length ≤ 20000 ∧ BytesL b ∧ Rd (New w0) w' (.slice p b.length c) (.ns .u8 b) ∧ Below w0.heap.size w0 w' := by
 obtain rfl : ni = items.length := by obtain ⟨pq, c9, hv, _⟩ := h1.l_shape; injection hv with _ e2 _; rw [List.length_map] at e2; exact e2
 refine ent1 Tryz.func29 rfl Tryz.ntmps29 fun Az Hz => ?_
 have m0 := MemOk.start (fun _ => False) w0
 refine zsr fun K0 hK0 => ?_
 refine plz (e_box Hz m0 20 (cs := [_, _, _, _, _, _, _, _, _, _]) rfl rfl rfl fun g1 Az w2 Hz m2 _ _ => ?_)
 refine gz hK0 Hz (.assign rfl <| .assign rfl <| .nil) fun Az Hz => ?_
 refine wsk fun K1 hK1 => ?_
 refine zsr fun K2 hK2 => ?_
 refine goCh Hz (.loadBR m2 (i := 20) rfl rfl U81 rfl fct5 (by simp) (by dsimp only [List.drop, List.take] <;> rfl) .nil) fun Az Hz => ?_
 refine plz (ecl Hz Tryz.func57 rfl (rcmdRight _ _ _ _ _ _ _ _ place items _ _ _ _ _ _ ((h0.now' m2 rfl).any) ((h1.now' m2 rfl).any) hp hl) ?_)
 rintro e w7 ⟨cb, rfl, hcb, hb7⟩
 have m8 := m2.later hb7
 refine ⟨_, rfl, ?_⟩; intro Az Hz
 refine gz hK2 Hz (.not rfl .nil) fun Az Hz => ?_
 refine bc Hz 7 ?_ ?_
 ·
  intro hb11 Hz; try simp only [QQ, Qax] at hb11
  refine wct Hz ?_
  refine regS Hz (.assign rfl <| .assign rfl .nil) fun Az Hz => ?_
  refine rt2 Hz ?_
  exact ⟨[], none, 0, 23, rfl, by simp, (fun _ h => by cases h), Rd.nilN _ _ .u8 none, m8.below⟩
 intro hb11 Hz; try simp only [QQ, Qax] at hb11
 have hcc := hcb (by simp_all)
 refine wcf Hz ?_
 refine zss (hK1 _ _ ?_)
 refine zsr fun K3 hK3 => ?_
 refine goCh Hz (.fa 0 rfl U81 <| .lb m8 20 U3 rfl rfl rfl <| .fa 1 rfl U81 <| .lb m8 20 U3 rfl rfl rfl <| .fa 2 rfl U81 <| .lb m8 20 U3 rfl rfl rfl <| .fa 3 rfl U81 <| .lb m8 20 U3 rfl rfl rfl <| .fa 4 rfl U81 <| .lb m8 20 U3 rfl rfl rfl <| .fa 6 rfl U81 <| .lb m8 20 U3 rfl rfl rfl <| .fa 7 rfl U81 <| .lb m8 20 U2 rfl rfl rfl <| .fa 8 rfl U81 <| .lb m8 20 U3 rfl rfl rfl .nil) fun Az Hz => ?_
 refine plz (e_litN Hz m8 21 (k := .i64) rfl rfl U30 fct22 rfl rfl rfl rfl fun g46 Az w47 Hz m47 => ?_)
 have m48 := m47.freezeN 21 rfl
 refine plz (ecl Hz Tryz.func58 rfl (rnums16 [kd, vo, bl, sz, pe, to, at0, ix] _ _ _ ((m48.rd (i := 21) rfl).any) (by simp)) ?_)
 rintro e w49 ⟨d0, p49, c49, rfl, hld0, hbd0, ho49, hb49⟩
 have m50 := m48.newN 22 hb49 ho49
 refine ⟨_, rfl, ?_⟩; intro Az Hz
 refine gz hK3 Hz (.assign rfl .nil) fun Az Hz => ?_
 refine wsk fun K4 hK4 => ?_
 replace Hz := Hz.oz [1, 2, 3, 4]
 have m54 := m50.oz [20, 21, 22]
 refine region_p 11 (B := [(20, _)]) (m54.to ⟨il, trivial⟩) m54 (by kernel_rfl) (fun w55 hP55 m55 => ?_); clear m54
 refine goR hP55 [0, 1, 2, 5, 6] [2, 6] 5 0 103 Hz (m55.to ⟨il, trivial⟩) (.move rfl <| .fa 5 rfl U81 <| .lb hh 20 U29 rfl rfl rfl <| .fa 9 rfl U81 <| .lb hh 20 U40 rfl rfl rfl .nil) fun Az Hz => ?_
 refine so 3 ?_
 refine ecl Hz Tryz.func59 rfl (rplace place _ _ _ ((h0.now' m55 rfl).any) hp) ?_
 rintro e w61 ⟨d1, p61, c61, rfl, hld1, hbd1, ho61, hb61⟩
 have m62 := m55.newN 23 hb61 ho61
 refine ⟨_, rfl, ?_⟩; intro Az Hz
 refine ⟨m62.to ⟨il, trivial⟩, ?_⟩
 refine so 4 ?_
 refine e_appN Hz m62 22 rfl rfl rfl (m62.numsO (i := 23) rfl) U22 fct19 (by decide) (by simp at hld0; omega) rfl fun p64 c64 Az w65 Hz m65 => ?_
 refine ⟨m65.to ⟨il, trivial⟩, ?_⟩
 refine so 7 ?_
 refine ecl Hz Tryz.func60 rfl (rputItems items _ _ _ _ ((h1.now' m65 rfl).any) (by omega) (fun e he => ⟨by have := hcc.2.2 e he; omega, hib e he⟩)) ?_
 rintro e w66 ⟨d2, p66, c66, rfl, hld2, hbd2, ho66, hb66⟩
 have m67 := m65.newN 24 hb66 ho66
 refine ⟨_, rfl, ?_⟩; intro Az Hz
 refine ⟨m67.to ⟨il, trivial⟩, ?_⟩
 refine so 8 ?_
 refine e_appN Hz m67 22 rfl rfl rfl (m67.numsO (i := 24) rfl) U22 fct19 (by decide) (by simp at hld0 ⊢; omega) rfl fun p69 c69 Az w70 Hz m70 => ?_
 refine ⟨m70.to ⟨il, trivial⟩, ?_⟩
 refine goA hP55 [9, 10] 2 511 2047 Hz (m70.to ⟨il, trivial⟩) (.assign rfl <| .assign rfl .nil) fun Az Hz => ?_
 refine wpAnyE_done (by kernel_rfl) ?_ _
 refine hK4 _ _ ?_
 refine rt2 Hz ?_
 have m73 := m70.freezeN 22 rfl
 exact ⟨d0 ++ d1 ++ d2, _, _, 0, rfl, by simp at hld0 ⊢; omega, bytes_app (bytes_app hbd0 hbd1) hbd2, m73.outF (i := 22) rfl, m73.below⟩
end
section
theorem fl81rC : flatS Tryz.prog 81 [.int .i64 0, .int .i64 0, .int .i64 0, .int .i64 0, .int .i64 0, .slice none 0 0, .int .i64 0, .int .i64 0, .int .i64 0, .slice none 0 0] = true := by kernel_rfl
theorem fl154rC : flatS Tryz.prog 154 [.slice none 0 0, .int .i64 0] = true := by kernel_rfl
set_option maxRecDepth 100000
set_option maxHeartbeats 4000000
theorem rreadCmd (X : Cx) (b : List Int) (p : Option Addr) (c : Nat) (w0 : World) (hb : b.length ≤ 1000000) (hbb : BytesL b) (m0 : MemOk X w0 [(1, .dat (.slice p b.length c) (.ns .u8 b))] w0) :
   Calls Tryz.prog 62 #[.slice p b.length c] w0 fun e w' => ∃ (kd vo bl sz pe to at0 ix : Int) (place : List Int) (items : List (Int × List Int)) (pp : Option Addr) (cp : Nat) (pi : Option Addr) (ci : Nat) (er : Int), e = .returned (.tuple #[.agg #[.int .i64 kd, .int .i64 vo, .int .i64 bl, .int .i64 sz, .int .i64 pe, .slice pp place.length cp, .int .i64 to, .int .i64 at0, .int .i64 ix, .slice pi (items.map itD).length ci], .int .i64 er]) ∧ place.length ≤ 256 ∧ items.length ≤ 8 ∧ (∀ e ∈ items, e.2.length ≤ 32 ∧ BytesL e.2) ∧ MemOk X w0 [(1, .dat (.slice pp place.length cp) (.ns .i64 place)), (2, .dat (.slice pi (items.map itD).length ci) (.l 2 (items.map itD)))] w' := by
 refine ent1 Tryz.func62 rfl Tryz.ntmps62 fun Az Hz => ?_
 refine zsr fun K0 hK0 => ?_
 refine plz (e_alloc Hz m0 20 fct7 rfl fun g1 Az w2 Hz m2 _ _ => ?_)
 refine gz hK0 Hz (.assign rfl .nil) fun Az Hz => ?_
 refine zsr fun K1 hK1 => ?_
 refine goCh Hz (.move rfl <| .build rfl fct39 fl154rC rfl (by dsimp only [setL, List.set] <;> rfl) .nil) fun Az Hz => ?_
 refine plz (e_box Hz m2 21 (cs := [_, _]) rfl rfl rfl fun g8 Az w9 Hz m9 _ _ => ?_)
 refine gz hK1 Hz (.assign rfl .nil) fun Az Hz => ?_
 refine zsr fun K2 hK2 => ?_
 refine plz (e_alloc Hz m9 22 fct7 rfl fun g11 Az w12 Hz m12 _ _ => ?_)
 refine znl (hK2 _ _ ?_)
 refine zsr fun K3 hK3 => ?_
 refine goCh Hz (.move rfl .nil) fun Az Hz => ?_
 have m15 := m12.dat 23 rfl (m12.rd (i := 1) rfl)
 refine plz (ecl Hz Tryz.func91 rfl (rnum _ _ b _ 8 _ _ _ (by omega) hbb (by decide) (m15.into [(1, 21), (2, 23)] (by decide) rfl)) ?_)
 rintro e w16 ⟨kd, b1, p16, c16, er16, rfl, hukd, hlb1, hbb1, hm16⟩
 have mx16 := m15.back hm16 [(21, 1), (24, 2)] (by decide); clear hm16 m15
 have m16 := mx16.oz [21, 24, 1, 20, 22]
 refine ⟨_, rfl, ?_⟩; intro Az Hz
 refine goCh Hz (.conv rfl U149 U3 (IntWalk.i64_in _ (by omega)) <| .fa 0 rfl U81 .nil) fun Az Hz => ?_
 refine plz (st1 Hz m16 22 fct23 fun w20 m20 _ => ?_)
 refine znl (hK3 _ _ ?_)
 replace Hz := Hz.oz [0, 2, 3, 4, 5]
 refine zsr fun K4 hK4 => ?_
 refine goCh Hz (.move rfl .nil) fun Az Hz => ?_
 refine plz (ecl Hz Tryz.func91 rfl (rnum _ _ b1 _ 8 _ _ _ (by omega) hbb1 (by decide) (m20.into [(1, 21), (2, 24)] (by decide) rfl)) ?_)
 rintro e w24 ⟨vo, b2, p24, c24, er24, rfl, huvo, hlb2, hbb2, hm24⟩
 have mx24 := m20.back hm24 [(21, 1), (25, 2)] (by decide); clear hm24 m20
 have m24 := mx24.oz [21, 25, 1, 20, 22]
 refine ⟨_, rfl, ?_⟩; intro Az Hz
 refine goCh Hz (.conv rfl U149 U3 (IntWalk.i64_in _ (by omega)) <| .fa 1 rfl U81 .nil) fun Az Hz => ?_
 refine plz (st1 Hz m24 22 fct23 fun w28 m28 _ => ?_)
 refine znl (hK4 _ _ ?_)
 refine zsr fun K5 hK5 => ?_
 refine goCh Hz (.move rfl .nil) fun Az Hz => ?_
 refine plz (ecl Hz Tryz.func91 rfl (rnum _ _ b2 _ 1099511627776 _ _ _ (by omega) hbb2 (by decide) (m28.into [(1, 21), (2, 25)] (by decide) rfl)) ?_)
 rintro e w31 ⟨bl, b3, p31, c31, er31, rfl, hubl, hlb3, hbb3, hm31⟩
 have mx31 := m28.back hm31 [(21, 1), (26, 2)] (by decide); clear hm31 m28
 have m31 := mx31.oz [21, 26, 1, 20, 22]
 refine ⟨_, rfl, ?_⟩; intro Az Hz
 refine goCh Hz (.conv rfl U149 U3 (IntWalk.i64_in _ (by omega)) <| .fa 2 rfl U81 .nil) fun Az Hz => ?_
 refine plz (st1 Hz m31 22 fct23 fun w35 m35 _ => ?_)
 refine znl (hK5 _ _ ?_)
 replace Hz := Hz.oz [0, 2, 3, 4, 5]
 refine zsr fun K6 hK6 => ?_
 refine goCh Hz (.move rfl .nil) fun Az Hz => ?_
 refine plz (ecl Hz Tryz.func91 rfl (rnum _ _ b3 _ 1099511627776 _ _ _ (by omega) hbb3 (by decide) (m35.into [(1, 21), (2, 26)] (by decide) rfl)) ?_)
 rintro e w39 ⟨sz, b4, p39, c39, er39, rfl, husz, hlb4, hbb4, hm39⟩
 have mx39 := m35.back hm39 [(21, 1), (27, 2)] (by decide); clear hm39 m35
 have m39 := mx39.oz [21, 27, 1, 20, 22]
 refine ⟨_, rfl, ?_⟩; intro Az Hz
 refine goCh Hz (.conv rfl U149 U3 (IntWalk.i64_in _ (by omega)) <| .fa 3 rfl U81 .nil) fun Az Hz => ?_
 refine plz (st1 Hz m39 22 fct23 fun w43 m43 _ => ?_)
 refine znl (hK6 _ _ ?_)
 refine zsr fun K7 hK7 => ?_
 refine goCh Hz (.move rfl .nil) fun Az Hz => ?_
 refine plz (ecl Hz Tryz.func91 rfl (rnum _ _ b4 _ 1099511627776 _ _ _ (by omega) hbb4 (by decide) (m43.into [(1, 21), (2, 27)] (by decide) rfl)) ?_)
 rintro e w46 ⟨pe, b5, p46, c46, er46, rfl, hupe, hlb5, hbb5, hm46⟩
 have mx46 := m43.back hm46 [(21, 1), (28, 2)] (by decide); clear hm46 m43
 have m46 := mx46.oz [21, 28, 1, 20, 22]
 refine ⟨_, rfl, ?_⟩; intro Az Hz
 refine goCh Hz (.conv rfl U149 U3 (IntWalk.i64_in _ (by omega)) <| .fa 4 rfl U81 .nil) fun Az Hz => ?_
 refine plz (st1 Hz m46 22 fct23 fun w50 m50 _ => ?_)
 refine znl (hK7 _ _ ?_)
 replace Hz := Hz.oz [0, 2, 3, 4, 5]
 refine zsr fun K8 hK8 => ?_
 refine goCh Hz (.move rfl .nil) fun Az Hz => ?_
 refine plz (ecl Hz Tryz.func91 rfl (rnum _ _ b5 _ 1099511627776 _ _ _ (by omega) hbb5 (by decide) (m50.into [(1, 21), (2, 28)] (by decide) rfl)) ?_)
 rintro e w54 ⟨to, b6, p54, c54, er54, rfl, huto, hlb6, hbb6, hm54⟩
 have mx54 := m50.back hm54 [(21, 1), (29, 2)] (by decide); clear hm54 m50
 have m54 := mx54.oz [21, 29, 1, 20, 22]
 refine ⟨_, rfl, ?_⟩; intro Az Hz
 refine goCh Hz (.conv rfl U149 U3 (IntWalk.i64_in _ (by omega)) <| .fa 6 rfl U81 .nil) fun Az Hz => ?_
 refine plz (st1 Hz m54 22 fct23 fun w58 m58 _ => ?_)
 refine znl (hK8 _ _ ?_)
 refine zsr fun K9 hK9 => ?_
 refine goCh Hz (.move rfl .nil) fun Az Hz => ?_
 refine plz (ecl Hz Tryz.func91 rfl (rnum _ _ b6 _ 1099511627776 _ _ _ (by omega) hbb6 (by decide) (m58.into [(1, 21), (2, 29)] (by decide) rfl)) ?_)
 rintro e w61 ⟨at0, b7, p61, c61, er61, rfl, huat0, hlb7, hbb7, hm61⟩
 have mx61 := m58.back hm61 [(21, 1), (30, 2)] (by decide); clear hm61 m58
 have m61 := mx61.oz [21, 30, 1, 20, 22]
 refine ⟨_, rfl, ?_⟩; intro Az Hz
 refine goCh Hz (.conv rfl U149 U2 (IntWalk.i64_in _ (by omega)) <| .fa 7 rfl U81 .nil) fun Az Hz => ?_
 refine plz (st1 Hz m61 22 fct10 fun w65 m65 _ => ?_)
 refine znl (hK9 _ _ ?_)
 replace Hz := Hz.oz [0, 2, 3, 4, 5]
 refine zsr fun K10 hK10 => ?_
 refine goCh Hz (.move rfl .nil) fun Az Hz => ?_
 refine plz (ecl Hz Tryz.func91 rfl (rnum _ _ b7 _ 1099511627776 _ _ _ (by omega) hbb7 (by decide) (m65.into [(1, 21), (2, 30)] (by decide) rfl)) ?_)
 rintro e w69 ⟨ix, b8, p69, c69, er69, rfl, huix, hlb8, hbb8, hm69⟩
 have mx69 := m65.back hm69 [(21, 1), (31, 2)] (by decide); clear hm69 m65
 have m69 := mx69.oz [21, 31, 1, 20, 22]
 refine ⟨_, rfl, ?_⟩; intro Az Hz
 refine goCh Hz (.conv rfl U149 U3 (IntWalk.i64_in _ (by omega)) <| .fa 8 rfl U81 .nil) fun Az Hz => ?_
 refine plz (st1 Hz m69 22 fct23 fun w73 m73 _ => ?_)
 refine znl (hK10 _ _ ?_)
 refine zsr fun K11 hK11 => ?_
 refine goCh Hz (.move rfl .nil) fun Az Hz => ?_
 refine plz (ecl Hz Tryz.func92 rfl (rtakePlace _ _ b8 _ _ _ _ (by omega) hbb8 (m73.into [(1, 21), (2, 31)] (by decide) rfl)) ?_)
 rintro e w76 ⟨place, b9, p76, c76, er76, p376, c376, rfl, hpl, hlb9, hbb9, hm76⟩
 have mx76 := m73.back hm76 [(21, 1), (32, 2), (33, 3)] (by decide); clear hm76 m73
 have m76 := mx76.oz [21, 32, 33, 1, 20, 22]
 refine ⟨_, rfl, ?_⟩; intro Az Hz
 refine goCh Hz (.fieldAddr (off := 5) rfl U81 rfl (s := 0) (by kernel_rfl) rfl .nil) fun Az Hz => ?_
 refine plz (st1 Hz m76 22 fct38 fun w79 m79 _ => ?_)
 refine znl (hK11 _ _ ?_)
 replace Hz := Hz.oz [0, 2, 3, 4, 5]
 refine zsr fun K12 hK12 => ?_
 refine goCh Hz (.move rfl .nil) fun Az Hz => ?_
 refine plz (ecl Hz Tryz.func93 rfl (rtakeItems _ _ b9 _ _ _ _ (by omega) hbb9 (m79.into [(1, 21), (2, 32)] (by decide) rfl)) ?_)
 rintro e w83 ⟨items, b10, p83, c83, er83, p383, c383, rfl, hil, hii, hlb10, hbb10, hm83⟩
 have mx83 := m79.back hm83 [(21, 1), (34, 2), (35, 3)] (by decide); clear hm83 m79
 have m83 := mx83.oz [21, 34, 35, 1, 20, 22, 33]
 refine ⟨_, rfl, ?_⟩; intro Az Hz
 refine goCh Hz (.fieldAddr (off := 9) rfl U81 rfl (s := 0) (by kernel_rfl) rfl .nil) fun Az Hz => ?_
 refine plz (st1 Hz m83 22 fct31 fun w86 m86 _ => ?_)
 refine znl (hK12 _ _ ?_)
 refine zsr fun K13 hK13 => ?_
 refine goCh Hz (.loadBR m86 (i := 22) rfl rfl U81 rfl fct5 (by simp) (by dsimp only [List.drop, List.take] <;> rfl) .nil) fun Az Hz => ?_
 refine plz (ecl Hz Tryz.func29 rfl (rputCmd _ _ _ _ _ _ _ _ place items _ _ _ _ _ _ ((m86.rd (i := 33) rfl).any) ((m86.rd (i := 35) rfl).any) (by omega) (by omega) (fun e he => (hii e he).2)) ?_)
 rintro e w89 ⟨ob, p89, c89, e9, rfl, hol, hob, ho89, hb89⟩
 have m90 := m86.callD 36 rfl hb89 (ho89.cast (fun b hb => Or.inr hb))
 refine ⟨_, rfl, ?_⟩; intro Az Hz
 refine gz hK13 Hz (.move rfl <| .extract rfl rfl <| .extract rfl rfl <| .assign rfl <| .assign rfl <| .nil) fun Az Hz => ?_
 refine wsk fun K14 hK14 => ?_
 replace Hz := Hz.oz [0, 2, 3, 4, 5, 6, 7]
 refine zsr fun K15 hK15 => ?_
 refine goCh Hz (.move rfl <| .nilCheck rfl <| .fa 1 rfl U154 <| .lb m90 21 U3 rfl rfl rfl <| .neq rfl rfl <| .move rfl .nil) fun Az Hz => ?_
 refine bc Hz 59 ?_ ?_
 ·
  intro hb110 Hz; try simp only [QQ, Qax] at hb110
  refine gz hK15 Hz (.sk <| .sk <| .pickT rfl rfl <| .move rfl <| .sk <| .sk <| .sk <| .sk <| .sk <| .pickT rfl rfl <| .nil) fun Az Hz => ?_
  refine wct Hz ?_
  replace Hz := Hz.oz [2, 3, 5]
  refine zsr fun K16 hK16 => ?_
  refine goCh Hz (.build rfl fct7 fl81rC rfl (by dsimp only [setL, List.set] <;> rfl) .nil) fun Az Hz => ?_
  refine plz (stw Hz m90 20 fct5 fun w124 m124 _ => ?_)
  refine gz hK16 Hz (.assign rfl .nil) fun Az Hz => ?_
  refine rtd (retCT (fn := Tryz.f62) Hz m124 (i := 20) rfl rfl rfl rfl U81 rfl fct5 ?_)
  have mA := m124.dat 91 rfl (Rd.nilN _ _ .i64 none)
  have mB := mA.dat 92 rfl (Rd.l0 none 0 2)
  exact ⟨0, 0, 0, 0, 0, 0, 0, 0, [], [], none, 0, none, 0, _, rfl, by simp, by simp, (fun e h => by cases h), mB.ren [(1, 91), (2, 92)] (by decide)⟩
 intro hb110 Hz; try simp only [QQ, Qax] at hb110
 refine goCh Hz (.moveZ rfl <| .neqZ rfl rfl <| .pickF rfl rfl <| .move rfl .nil) fun Az Hz => ?_
 refine bc Hz 63 ?_ ?_
 ·
  intro hb130 Hz; try simp only [QQ, Qax] at hb130
  refine gz hK15 Hz (.sk <| .sk <| .sk <| .sk <| .sk <| .pickT rfl rfl <| .nil) fun Az Hz => ?_
  refine wct Hz ?_
  replace Hz := Hz.oz [2, 3, 5]
  refine zsr fun K17 hK17 => ?_
  refine goCh Hz (.build rfl fct7 fl81rC rfl (by dsimp only [setL, List.set] <;> rfl) .nil) fun Az Hz => ?_
  refine plz (stw Hz m90 20 fct5 fun w140 m140 _ => ?_)
  refine gz hK17 Hz (.assign rfl .nil) fun Az Hz => ?_
  refine rtd (retCT (fn := Tryz.f62) Hz m140 (i := 20) rfl rfl rfl rfl U81 rfl fct5 ?_)
  have mA := m140.dat 91 rfl (Rd.nilN _ _ .i64 none)
  have mB := mA.dat 92 rfl (Rd.l0 none 0 2)
  exact ⟨0, 0, 0, 0, 0, 0, 0, 0, [], [], none, 0, none, 0, _, rfl, by simp, by simp, (fun e h => by cases h), mB.ren [(1, 91), (2, 92)] (by decide)⟩
 intro hb130 Hz; try simp only [QQ, Qax] at hb130
 refine gz hK15 Hz (.moveZ rfl <| .strZ rfl (m90.nums (i := 36) rfl) U22 U5 U9 <| .moveZ rfl <| .strZ rfl (m90.nums (i := 1) rfl) U22 U5 U9 <| .neqSZ rfl rfl <| .pickF rfl rfl <| .nil) fun Az Hz => ?_
 refine bc Hz 69 ?_ ?_
 ·
  intro hb148 Hz; try simp only [QQ, Qax] at hb148
  refine wct Hz ?_
  replace Hz := Hz.oz [2, 3, 5]
  refine zsr fun K18 hK18 => ?_
  refine goCh Hz (.build rfl fct7 fl81rC rfl (by dsimp only [setL, List.set] <;> rfl) .nil) fun Az Hz => ?_
  refine plz (stw Hz m90 20 fct5 fun w152 m152 _ => ?_)
  refine gz hK18 Hz (.assign rfl .nil) fun Az Hz => ?_
  refine rtd (retCT (fn := Tryz.f62) Hz m152 (i := 20) rfl rfl rfl rfl U81 rfl fct5 ?_)
  have mA := m152.dat 91 rfl (Rd.nilN _ _ .i64 none)
  have mB := mA.dat 92 rfl (Rd.l0 none 0 2)
  exact ⟨0, 0, 0, 0, 0, 0, 0, 0, [], [], none, 0, none, 0, _, rfl, by simp, by simp, (fun e h => by cases h), mB.ren [(1, 91), (2, 92)] (by decide)⟩
 intro hb148 Hz; try simp only [QQ, Qax] at hb148
 refine wcf Hz ?_
 refine zss (hK14 _ _ ?_)
 replace Hz := Hz.oz [2, 3, 5]
 refine zsr fun K19 hK19 => ?_
 refine goCh Hz (.loadBR m90 (i := 22) rfl rfl U81 rfl fct5 (by simp) (by dsimp only [List.drop, List.take] <;> rfl) .nil) fun Az Hz => ?_
 refine plz (stw Hz m90 20 fct5 fun w157 m157 _ => ?_)
 refine gz hK19 Hz (.assign rfl .nil) fun Az Hz => ?_
 refine rtd (retCT (fn := Tryz.f62) Hz m157 (i := 20) rfl rfl rfl rfl U81 rfl fct5 ?_)
 exact ⟨kd, vo, bl, sz, pe, to, at0, ix, place, items, _, _, _, _, _, rfl, hpl, hil, hii, m157.ren [(1, 33), (2, 35)] (by decide)⟩
end
section
section
variable {P : Program} {ops : Array Oper} {Q : Exit → Act → World → Prop} {md : Region.Mode} {listed : Array Bool} {fuel e : Nat} {S : World → Prop} {a : Act} {w : World}
theorem d_three (i j k : Nat) {oi oj ok : Oper} (hi : ops[i]? = some oi) (hj : ops[j]? = some oj) (hk : ops[k]? = some ok) (hr : Region.ready md ops listed = [i, j, k])
   (hwi : Region.wanted oi (Go.yielded ops a.tmps) = true) (hwj : Region.wanted oj (Go.yielded ops a.tmps) = true) (hwk : Region.wanted ok (Go.yielded ops a.tmps) = true)
   (h1 : ∀ K' : Act → World → Prop, (∀ a' w', ((listed.setIfInBounds i true).getD e false = false → S w') → wpAnyE P md ops Q e S fuel (listed.setIfInBounds i true) a' w' → K' a' w') → Oper.wp P oi a w K' Q)
   (h2 : ∀ K' : Act → World → Prop, (∀ a' w', ((listed.setIfInBounds j true).getD e false = false → S w') → wpAnyE P md ops Q e S fuel (listed.setIfInBounds j true) a' w' → K' a' w') → Oper.wp P oj a w K' Q)
   (h3 : ∀ K' : Act → World → Prop, (∀ a' w', ((listed.setIfInBounds k true).getD e false = false → S w') → wpAnyE P md ops Q e S fuel (listed.setIfInBounds k true) a' w' → K' a' w') → Oper.wp P ok a w K' Q) :
   wpAnyE P md ops Q e S (fuel + 1) listed a w := by
 refine ⟨fun h0 => absurd (hr ▸ h0) (by simp), fun q hq => ?_⟩
 rw [hr] at hq
 rcases List.mem_cons.1 hq with rfl | hq
 · refine wpOp_step hi (fun K' hK => ?_)
   rw [if_pos hwi]
   exact h1 K' (fun a' w' h hn => hK a' w' ⟨h, hn⟩)
 rcases List.mem_cons.1 hq with rfl | hq
 · refine wpOp_step hj (fun K' hK => ?_)
   rw [if_pos hwj]
   exact h2 K' (fun a' w' h hn => hK a' w' ⟨h, hn⟩)
 obtain rfl : q = k := by simpa using hq
 refine wpOp_step hk (fun K' hK => ?_)
 rw [if_pos hwk]
 exact h3 K' (fun a' w' h hn => hK a' w' ⟨h, hn⟩)
end
section
variable {P : Program} {n : Nat} {T : List (Nat × Value)} {a : Act} {w w0 : World} {X : Cx} {M : Mm} {tt : TypeId} {pos : String} {af : Array Edge} {gd : Option (Nat × Bool)} {Q : Exit → Act → World → Prop} {K : Act → World → Prop}
theorem e_storeRW (ha : Has n T a) (m : MemOk X w0 M w) (i : Nat) {g l c mm : Nat} {t e : TypeId} {x y : Operand} {rows : List (List D)} {xs : Array Value} {dd : List D} (hm : lk M i = some (.row (.slice (some ⟨g, 0, none⟩) l c) e mm rows)) (J : Nat) (hJ : J < rows.length) {q' : Nat} (hx : evT T x = some (.pointer (some ⟨g, q', none⟩))) (hq' : q' = 0 + J * mm) (hy : evT T y = some (.agg xs)) (hv : xs.toList.all (fun v => v.oneCell') = true) (hl : xs.size = mm) (hs : (P.info? t).map (·.size) = some xs.size) (hdd : RdL (Free X M) w xs.toList dd)
   (h : ∀ w', MemOk X w0 ((i, .row (.slice (some ⟨g, 0, none⟩) l c) e mm (rows.set J dd)) :: M) w' → K a w') : Oper.wp P ⟨none, .store t x y, tt, pos, af, gd⟩ a w K Q := by
 obtain ⟨cs, h1, h2, h3, h4, h5⟩ := m.ok i _ hm
 subst hq'
 have hJc : cs[J]? = some cs[J] := List.getElem?_eq_getElem (by omega)
 rcases h1.2 with ⟨e1, _⟩ | ⟨g', cap, cur, e1, hg', hbk, hnc, hcm, hcs, htk⟩
 · cases e1
 injection e1 with e1 e2 e3
 injection e1 with e1
 injection e1 with e1 e4
 subst e1; subst e2; subst e3
 obtain ⟨o, ho⟩ : ∃ o : Nat, o = 0 := ⟨0, rfl⟩
 have htk : (cur.toList.drop o).take (rows.length * mm) = cs.flatten := by rw [ho]; simpa using htk
 have hJm : J * mm + mm ≤ rows.length * mm := by
   calc J * mm + mm = (J + 1) * mm := by rw [Nat.add_mul]; omega
     _ ≤ rows.length * mm := Nat.mul_le_mul_right _ (by omega)
 have hcapm : rows.length * mm ≤ c * mm := Nat.mul_le_mul_right _ hnc
 have hb : Blk w g e cur.toList := by unfold Blk; rw [Array.toArray_toList]; exact hbk
 have hcl : cur.toList.length = cur.size := Array.length_toList
 have hxl : xs.toList.length = mm := by rw [Array.length_toList, hl]
 obtain ⟨w', hrn, hb', hk⟩ := run_storeVar_blk (P := P) hb (o + J * mm) t xs.toList (by rw [hxl]; omega) (by simpa using hs) (List.all_eq_true.1 hv)
 have hrun : (execOp a.eval ⟨none, .store t x y, tt, pos, af, gd⟩).run P w = .ok .skip w' := by
   have hr' : (Instr.storeAt t (.pointer (some ⟨g, J * mm, none⟩)) (.agg xs)).run P w = .ok () w' := by rw [ho, Nat.zero_add] at hrn; simpa using hrn
   have hx' : evT T x = some (.pointer (some ⟨g, J * mm, none⟩)) := by rw [hx, Nat.zero_add]
   simp [execOp, ha.ev hx', ha.ev hy, hr']
 show Oper.upon P _ a K Q _
 rw [hrun]
 rw [hxl] at hb'
 have hlen : (rows.set J dd).length = rows.length := List.length_set ..
 have hdl : dd.length = mm := by rw [← hdd.len, hxl]
 have hkeep : Keep (fun b => ∃ r, lk M i = some r ∧ r.blk = some b) w w' := (hk (fun b => b = g) rfl).mono (fun b e => ⟨_, hm, by rw [show b = g from e]; rfl⟩)
 refine h w' (m.upd i _ hkeep (fun b hb => .inl ⟨_, hm, hb⟩) (fun hf _ => ⟨cs.set J xs.toList, ?_, by rw [List.length_set, h2, hlen], fun c' hc' => ?_, fun r' hr' => ?_, fun j q2 c' r' x' d a1 a2 a3 a4 => ?_⟩))
 · have hfl : cs.flatten.length = rows.length * mm := h1.1
   rw [hlen, ← flatten_put xs.toList hxl cs J (fun c hc => (h3 c hc).1) (by omega)]
   refine ⟨by simp only [List.length_append, List.length_take, List.length_drop, hxl, hfl]; omega, .inr ⟨g, c, (cur.toList.take (o + J * mm) ++ xs.toList ++ cur.toList.drop (o + J * mm + mm)).toArray, rfl, hg', hb', hnc, hcm, ?_, ?_⟩⟩
   · simp only [List.size_toArray, List.length_append, List.length_take, List.length_drop, hxl, hcl]; omega
   rw [← htk]
   show List.take (rows.length * mm) (cur.toList.take (o + J * mm) ++ xs.toList ++ cur.toList.drop (o + J * mm + mm)) = _
   rw [show (cur.toList.take (o + J * mm) ++ xs.toList ++ cur.toList.drop (o + J * mm + mm)) = (cur.toList.take (o + J * mm) ++ xs.toList ++ cur.toList.drop (o + J * mm + mm)).drop o by rw [ho, List.drop_zero]]
   generalize rows.length * mm = N at *
   generalize J * mm = j at *
   apply List.ext_getElem?
   intro k
   rw [List.getElem?_take]
   by_cases hkN : k < N
   · rw [if_pos hkN, List.getElem?_drop]
     by_cases k1 : k < j
     · rw [List.getElem?_append_left (by simp; omega), List.getElem?_append_left (by simp; omega), List.getElem?_take_of_lt (by omega)]
       rw [List.getElem?_append_left (by simp; omega), List.getElem?_append_left (by simp; omega), List.getElem?_take_of_lt (by omega), List.getElem?_take_of_lt (by omega), List.getElem?_drop]
     by_cases k2 : k < j + mm
     · rw [List.getElem?_append_left (by simp; omega), List.getElem?_append_right (by simp; omega)]
       rw [List.getElem?_append_left (by simp; omega), List.getElem?_append_right (by simp; omega)]
       congr 1; simp; omega
     rw [List.getElem?_append_right (by simp; omega), List.getElem?_append_right (by simp; omega)]
     simp only [List.getElem?_drop, List.length_append, List.length_take, List.length_drop, hxl, hcl]
     rw [List.getElem?_take_of_lt (by omega), List.getElem?_drop]
     congr 1; omega
   rw [if_neg hkN, List.getElem?_eq_none]
   simp only [List.length_append, List.length_take, List.length_drop, hxl, hcl]
   omega
 · rcases List.mem_or_eq_of_mem_set hc' with hc' | rfl
   · exact h3 c' hc'
   exact ⟨hxl, List.all_eq_true.1 hv⟩
 · rcases List.mem_or_eq_of_mem_set hr' with hr' | rfl
   · exact h4 r' hr'
   exact hdl
 have hmono : ∀ b, b < w.heap.size → Free X M b → w'.heap[b]? = w.heap[b]? ∧ Free X ((i, Res.row (.slice (some ⟨g, 0, none⟩) rows.length c) e mm (rows.set J dd)) :: M) b := fun b hlt hF => ⟨(hk (fun b => b = g) rfl).2.2.2.2 b hlt (fun e => hF.2 ⟨i, _, hm, by rw [show b = g from e]; rfl⟩), hf b hlt hF⟩
 have hsz := hkeep.size
 by_cases hjJ : j = J
 · subst hjJ
   rw [List.getElem?_set_self (by omega)] at a1
   rw [List.getElem?_set_self (by omega)] at a2
   cases a1; cases a2
   exact (hdd.get _ _ _ a3 a4).mono hsz hmono
 rw [List.getElem?_set_ne (by omega)] at a1
 rw [List.getElem?_set_ne (by omega)] at a2
 exact (h5 j q2 c' r' x' d a1 a2 a3 a4).mono hsz hmono
end
section
variable {w w0 : World} {X : Cx} {M : Mm}
theorem MemOk.callF2 (m : MemOk X w0 M w) (i j : Nat) {w' : World} {u v : Value} {d e : D} (hi : lk M i = none) (hj : lk ((i, .dat u d) :: M) j = none) (hb : Below w.heap.size w w') (h1 : Rd (New w) w' u d) (h2 : Rd (New w) w' v e) : MemOk X w0 ((j, .dat v e) :: (i, .dat u d) :: M) w' :=
 (m.callF i hi hb h1).dat j hj (h2.cast (fun b hb => free_add rfl (m.free_out (.inr hb))))
theorem MemOk.callF3 (m : MemOk X w0 M w) (i j k : Nat) {w' : World} {u v t : Value} {d e f : D} (hi : lk M i = none) (hj : lk ((i, .dat u d) :: M) j = none) (hk : lk ((j, .dat v e) :: (i, .dat u d) :: M) k = none) (hb : Below w.heap.size w w') (h1 : Rd (New w) w' u d) (h2 : Rd (New w) w' v e) (h3 : Rd (New w) w' t f) : MemOk X w0 ((k, .dat t f) :: (j, .dat v e) :: (i, .dat u d) :: M) w' :=
 (m.callF2 i j hi hj hb h1 h2).dat k hk (h3.cast (fun b hb => free_add rfl (free_add rfl (m.free_out (.inr hb)))))
end
section
variable {P : Program} {ops : Array Oper} {Q : Exit → Act → World → Prop} {a : Act} {w : World} {md : Region.Mode} {e fuel : Nat} {S : World → Prop} {listed : Array Bool}
theorem dth (i j k : Nat) {oi oj ok : Oper} (h1 : Oper.wp P oi a w (fun a' w' => ((listed.setIfInBounds i true).getD e false = false → S w') ∧ wpAnyE P md ops Q e S fuel (listed.setIfInBounds i true) a' w') Q) (h2 : Oper.wp P oj a w (fun a' w' => ((listed.setIfInBounds j true).getD e false = false → S w') ∧ wpAnyE P md ops Q e S fuel (listed.setIfInBounds j true) a' w') Q) (h3 : Oper.wp P ok a w (fun a' w' => ((listed.setIfInBounds k true).getD e false = false → S w') ∧ wpAnyE P md ops Q e S fuel (listed.setIfInBounds k true) a' w') Q) (hi : ops[i]? = some oi := by rfl) (hj : ops[j]? = some oj := by rfl) (hk : ops[k]? = some ok := by rfl) (hr : Region.ready md ops listed = [i, j, k] := by kernel_rfl) (hwi : Region.wanted oi (Go.yielded ops a.tmps) = true := by rfl) (hwj : Region.wanted oj (Go.yielded ops a.tmps) = true := by rfl) (hwk : Region.wanted ok (Go.yielded ops a.tmps) = true := by rfl) : wpAnyE P md ops Q e S (fuel + 1) listed a w :=
  d_three i j k hi hj hk hr hwi hwj hwk (fun _ hK => Oper.wp_mono (fun a' w' h => hK a' w' h.1 h.2) h1) (fun _ hK => Oper.wp_mono (fun a' w' h => hK a' w' h.1 h.2) h2) (fun _ hK => Oper.wp_mono (fun a' w' h => hK a' w' h.1 h.2) h3)
end
end
end Go.Proofs.YtamjnimaeecmoaaGreat.K
