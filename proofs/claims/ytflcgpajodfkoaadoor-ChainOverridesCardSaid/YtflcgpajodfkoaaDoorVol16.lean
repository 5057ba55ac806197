/- volume: what a call does, by the reference. -/
import Derived.Test.YtflcgpajodfkoaaDoorVol15
namespace Go.Proofs.YtflcgpajodfkoaaDoor.K
open Go.ChangeShapes Go.WideShapes Go.ChangeAt Go.RowKit
set_option linter.unusedVariables false
set_option linter.unusedSimpArgs false
theorem le_snoc {l : List Int} {k : Nat} {a : Int} (h : ∀ j, j < k → l.getD j 0 ≤ a) (hk : l.getD k 0 ≤ a) : ∀ j, j < k + 1 → l.getD j 0 ≤ a := fun j hj => by
 rcases Nat.lt_or_ge j k with h1 | h1
 · exact h j h1
 obtain rfl : j = k := by omega
 exact hk
theorem nn_snoc {l : List Int} {k : Nat} {a : Int} (h : ∀ j, j < k → l.getD j 0 ≠ a) (hk : ¬ l.getD k 0 = a) : ∀ j, j < k + 1 → l.getD j 0 ≠ a := fun j hj => by
 rcases Nat.lt_or_ge j k with h1 | h1
 · exact h j h1
 obtain rfl : j = k := by omega
 exact hk
theorem sortP_sorted (l : List Int) : (sortP l).Pairwise (· ≤ ·) := by
 have h := List.pairwise_mergeSort (le := fun (x y : Int) => decide (x ≤ y)) (fun a b c h1 h2 => by simp at h1 h2 ⊢; omega) (fun a b => by simp; omega) l
 exact h.imp (fun h => by simpa using h)
theorem pin_sorted {pins : List Int} {at0 : Int} {k : Nat} (hs : pins.Pairwise (· ≤ ·)) (hall : ∀ j, j < k → pins.getD j 0 ≤ at0) (hkl : k ≤ pins.length) (hnx : k = pins.length ∨ at0 < pins.getD k 0) : pins.take k ++ [at0] ++ pins.drop k = sortP (pins ++ [at0]) := by
 refine List.Perm.eq_of_pairwise (le := (· ≤ ·)) (fun a b _ _ h1 h2 => by omega) ?_ (sortP_sorted _) ?_
 · rw [List.append_assoc, List.pairwise_append]
   refine ⟨hs.sublist (List.take_sublist _ _), ?_, ?_⟩
   · rw [List.singleton_append, List.pairwise_cons]
     refine ⟨fun b hb => ?_, hs.sublist (List.drop_sublist _ _)⟩
     rcases hnx with rfl | hnx
     · rw [List.drop_length] at hb; cases hb
     obtain ⟨j, hj, rfl⟩ := List.getElem_of_mem hb
     rw [List.length_drop] at hj
     rw [List.getElem_drop]
     have h1 : pins.getD k 0 ≤ pins[k + j] := by
       rw [List.getD, List.getElem?_eq_getElem (by omega)]
       rcases Nat.eq_zero_or_pos j with rfl | hj0
       · exact Int.le_refl _
       exact List.pairwise_iff_getElem.1 hs k (k + j) (by omega) (by omega) (by omega)
     omega
   intro a ha b hb
   obtain ⟨j, hj, rfl⟩ := List.getElem_of_mem ha
   rw [List.length_take] at hj
   rw [List.getElem_take]
   have h1 : pins[j] ≤ at0 := by have := hall j (by omega); rwa [List.getD, List.getElem?_eq_getElem (by omega)] at this
   rcases List.mem_append.1 hb with hb | hb
   · simp at hb; omega
   obtain ⟨i, hi, rfl⟩ := List.getElem_of_mem hb
   rw [List.length_drop] at hi
   rw [List.getElem_drop]
   exact List.pairwise_iff_getElem.1 hs j (k + i) (by omega) (by omega) (by omega)
 refine List.Perm.trans ?_ (List.mergeSort_perm _ _).symm
 rw [List.append_assoc]
 refine (List.Perm.append_left _ (List.perm_append_comm)).trans ?_
 rw [← List.append_assoc, List.take_append_drop]
set_option maxRecDepth 100000
set_option maxHeartbeats 4000000
theorem rdone (X : Cx) (vo bl sz pe to ne fl : Int) (hi : Bool) (place pins : List Int) (ws : List (Int × List (Int × List Int))) (items : List (Int × List Int)) (pp pn pw : Option Addr) (cp cn9 cw : Nat) (pi : Option Addr) (ci : Nat) (kd v1 v2 v3 v4 v5 at0 ix : Int) (q1 : Option Addr) (n1 c1 : Nat) (w0 : World) (hk4 : kd ≠ 4) (hk5 : kd ≠ 5) (hne : -1000000000000000 ≤ ne ∧ ne ≤ 1000000000000000) (hl : ws.length ≤ 900000) (hp : pins.length ≤ 1000000) (hil : items.length ≤ 1000000) (hio : ItsOk items) (m0 : MemOk X w0 [(1, .dat (.slice pp place.length cp) (.ns .i64 place)), (2, .dat (.slice pn pins.length cn9) (.ns .i64 pins)), (3, .dat (.slice pw (ws.map wrD).length cw) (.l 2 (ws.map wrD))), (4, .dat (.slice pi items.length ci) (.l 2 (items.map itD)))] w0) :
   Calls Tryd.prog 86 #[.agg #[.int .i64 vo, .int .i64 bl, .int .i64 sz, .int .i64 pe, .slice pp place.length cp, .int .i64 to, .int .i64 ne, .bool hi, .int .i64 fl, .slice pn pins.length cn9, .slice pw (ws.map wrD).length cw], .agg #[.int .i64 kd, .int .i64 v1, .int .i64 v2, .int .i64 v3, .int .i64 v4, .slice q1 n1 c1, .int .i64 v5, .int .i64 at0, .int .i64 ix, .slice pi items.length ci]] w0 fun e w' => ∃ (ne' : Int) (hi' : Bool) (fl' : Int) (ws' : List (Int × List (Int × List Int))) (e9 : Int) (p3' : Option Addr) (d3' : Nat), e = .returned (.tuple #[.agg #[.int .i64 vo, .int .i64 bl, .int .i64 sz, .int .i64 pe, .slice pp place.length cp, .int .i64 to, .int .i64 ne', .bool hi', .int .i64 fl', .slice pn pins.length cn9, .slice p3' (ws'.map wrD).length d3'], .int .i64 e9]) ∧ doR bl sz to ne fl hi pins ws kd at0 ix items = (ne', hi', fl', ws', e9) ∧ MemOk X w0 [(1, .dat (.slice pp place.length cp) (.ns .i64 place)), (2, .dat (.slice pn pins.length cn9) (.ns .i64 pins)), (3, .dat (.slice pw (ws.map wrD).length cw) (.l 2 (ws.map wrD))), (4, .dat (.slice pi items.length ci) (.l 2 (items.map itD))), (7, .dat (.slice p3' (ws'.map wrD).length d3') (.l 2 (ws'.map wrD)))] w' := by
 refine ent2 Tryd.func86 rfl Tryd.ntmps86 fun Az Hz => ?_
 refine zsr fun K0 hK0 => ?_
 refine wpList_plain rfl (fun K hK => ?_)
 refine e_box Hz m0 20 (cs := [_, _, _, _, _, _, _, _, _, _, _]) rfl rfl rfl ?_
 clear Hz Az m0; intro g1 Az w2 Hz m2 hB2 hg2
 clear hB2 hg2
 refine hK _ _ ?_; clear hK
 refine wpList_plain rfl (fun K hK => ?_)
 refine e_box Hz m2 21 (cs := [_, _, _, _, _, _, _, _, _, _]) rfl rfl rfl ?_
 clear Hz Az m2; intro g3 Az w4 Hz m4 hB4 hg4
 clear hB4 hg4
 refine hK _ _ ?_; clear hK
 refine wpList_plain rfl (fun K hK => ?_)
 refine e_alloc Hz m4 22 fct12 rfl ?_
 clear Hz Az m4; intro g5 Az w6 Hz m6 hB6 hg6
 clear hB6 hg6
 refine hK _ _ ?_; clear hK
 refine goCh Hz (.assign rfl .nil) ?_
 clear Hz Az; intro Az Hz
 refine znl (hK0 _ _ ?_); clear hK0
 refine wp_seq_k (fun K1 hK1 => ?_)
 refine regS Hz (.fa 0 rfl U87 <| .lb m6 21 U3 rfl rfl rfl <| .nil) ?_
 clear Hz Az; intro Az Hz
 refine wp_block ?_
 refine wp_seq_k (fun K2 hK2 => ?_)
 refine regS Hz (.eql rfl rfl <| .assign rfl <| .nil) ?_
 clear Hz Az; intro Az Hz
 refine bool_cases Hz (t := 10) rfl ?_ ?_
 ·
  clear Hz; intro hb12 Hz; try simp only [QQ, Qax] at hb12
  refine wp_cond_true (Hz.ev (x := .tmp 10) rfl) ?_
  refine zss (hK2 _ _ ?_); clear hK2
  refine wp_cond_true (Hz.ev (x := .tmp 10) rfl) ?_
  refine regS Hz (.fa 7 rfl U30 <| .lb m6 20 U4 rfl rfl rfl <| .nil) ?_
  clear Hz Az; intro Az Hz
  refine bool_cases Hz (t := 16) rfl ?_ ?_
  ·
   clear Hz; intro hb15 Hz; try simp only [QQ, Qax] at hb15
   refine wp_cond_true (Hz.ev (x := .tmp 16) rfl) ?_
   replace Hz : Has 197 [(2, _), (3, _), (4, _), (5, _), (10, _), (16, _)] Az := Hz.only [2, 3, 4, 5, 10, 16]
   refine zsr fun K3 hK3 => ?_
   refine goCh Hz (.loadBR m6 (i := 20) rfl rfl U30 rfl fct10 (by simp) (by dsimp only [List.drop, List.take] <;> rfl) .nil) ?_
   clear Hz Az; intro Az Hz
   refine wpList_plain rfl (fun K hK => ?_)
   refine e_storeW Hz m6 22 rfl rfl rfl rfl rfl fct10 ?_
   clear m6; intro w19 m19 hB19
   clear hB19
   refine hK _ _ ?_; clear hK
   refine goCh Hz (.assign rfl .nil) ?_
   clear Hz Az; intro Az Hz
   refine znl (hK3 _ _ ?_); clear hK3
   refine wp_ret ?_
   try dsimp only [Exit.then, Exit.inBlock]
   refine (retCT (fn := Tryd.f86) Hz m19 (i := 22) rfl rfl rfl rfl U30 rfl fct10 ?_)
   have m21 := m19.dat 23 rfl (m19.rd (i := 3) rfl); clear m19
   exact ⟨ne, hi, fl, ws, 28, _, _, rfl, by rw [doR, if_pos (by omega), putR, if_pos (by assumption)], m21.ren [(1, 1), (2, 2), (3, 3), (4, 4), (7, 23)] (by decide)⟩
  clear Hz; intro hb15 Hz; try simp only [QQ, Qax] at hb15
  refine wp_cond_false (Hz.ev (x := .tmp 16) rfl) ?_
  refine zss (hK1 _ _ ?_); clear hK1
  refine wp_seq_k (fun K4 hK4 => ?_)
  replace Hz : Has 197 [(2, _), (3, _), (4, _), (5, _), (10, _), (16, _)] Az := Hz.only [2, 3, 4, 5, 10, 16]
  refine regS Hz (.fa 0 rfl U87 <| .lb m6 21 U3 rfl rfl rfl <| .nil) ?_
  clear Hz Az; intro Az Hz
  refine wp_block ?_
  refine regS Hz (.eql rfl rfl <| .assign rfl <| .nil) ?_
  clear Hz Az; intro Az Hz
  refine bool_cases Hz (t := 21) rfl ?_ ?_
  rotate_left
  · intro hb _; exact absurd hb (by simp; omega)
  clear Hz; intro _ Hz
  refine wp_cond_true (Hz.ev (x := .tmp 21) rfl) ?_
  refine wp_seq_k (fun K5 hK5 => ?_)
  refine zsr fun K6 hK6 => ?_
  refine goCh Hz (.fa 1 rfl U30 <| .lb m6 20 U3 rfl rfl rfl <| .fa 2 rfl U30 <| .lb m6 20 U3 rfl rfl rfl <| .fa 9 rfl U87 <| .lb m6 21 U33 rfl rfl rfl <| .nil) ?_
  clear Hz Az; intro Az Hz
  refine wpList_plain rfl (fun K hK => ?_)
  refine e_call Hz Tryd.func97 rfl rfl rfl rfl (ritems_any _ _ items _ _ _ _ ((m6.rd (i := 4) rfl).any) hil) ?_
  rintro e w40 ⟨ib, rfl, hib, hb40⟩
  have m41 := m6.later hb40
  clear m6
  clear hb40
  refine ⟨_, rfl, ?_⟩; clear Hz Az; intro Az Hz
  refine hK _ _ ?_; clear hK
  refine goCh Hz (.not rfl .nil) ?_
  clear Hz Az; intro Az Hz
  refine znl (hK6 _ _ ?_); clear hK6
  refine bool_cases Hz (t := 30) rfl ?_ ?_
  ·
   clear Hz; intro hb44 Hz; try simp only [QQ, Qax] at hb44
   refine wp_cond_true (Hz.ev (x := .tmp 30) rfl) ?_
   replace Hz : Has 197 [(2, _), (3, _), (4, _), (5, _), (10, _), (16, _), (19, _), (21, _), (30, _)] Az := Hz.only [2, 3, 4, 5, 10, 16, 19, 21, 30]
   refine zsr fun K7 hK7 => ?_
   refine goCh Hz (.loadBR m41 (i := 20) rfl rfl U30 rfl fct10 (by simp) (by dsimp only [List.drop, List.take] <;> rfl) .nil) ?_
   clear Hz Az; intro Az Hz
   refine wpList_plain rfl (fun K hK => ?_)
   refine e_storeW Hz m41 22 rfl rfl rfl rfl rfl fct10 ?_
   clear m41; intro w48 m48 hB48
   clear hB48
   refine hK _ _ ?_; clear hK
   refine goCh Hz (.assign rfl .nil) ?_
   clear Hz Az; intro Az Hz
   refine znl (hK7 _ _ ?_); clear hK7
   refine wp_ret ?_
   try dsimp only [Exit.then, Exit.inBlock]
   refine (retCT (fn := Tryd.f86) Hz m48 (i := 22) rfl rfl rfl rfl U30 rfl fct10 ?_)
   have m50 := m48.dat 23 rfl (m48.rd (i := 3) rfl); clear m48
   exact ⟨ne, hi, fl, ws, 23, _, _, rfl, by rw [doR, if_pos (by omega), putR, if_neg (by simp_all), wrR, if_neg (fun h => by have h9 := hib.2 h; simp_all)], m50.ren [(1, 1), (2, 2), (3, 3), (4, 4), (7, 23)] (by decide)⟩
  clear Hz; intro hb44 Hz; try simp only [QQ, Qax] at hb44
  refine wp_cond_false (Hz.ev (x := .tmp 30) rfl) ?_
  refine zss (hK5 _ _ ?_); clear hK5
  replace Hz : Has 197 [(2, _), (3, _), (4, _), (5, _), (10, _), (16, _), (19, _), (21, _), (30, _)] Az := Hz.only [2, 3, 4, 5, 10, 16, 19, 21, 30]
  refine zsr fun K8 hK8 => ?_
  refine goCh Hz (.loadBR m41 (i := 20) rfl rfl U30 rfl fct10 (by simp) (by dsimp only [List.drop, List.take] <;> rfl) <| .fa 9 rfl U87 <| .lb m41 21 U33 rfl rfl rfl <| .nil) ?_
  clear Hz Az; intro Az Hz
  refine wpList_plain rfl (fun K hK => ?_)
  refine e_call Hz Tryd.func98 rfl rfl rfl rfl (rwrite_fr _ _ _ _ _ _ _ _ _ place pins ws items _ _ _ _ _ _ _ _ _ hl hil hio (m41.into [(1, 1), (2, 2), (3, 3), (4, 4)] (by decide) rfl)) ?_
  rintro e w58 ⟨p58, c58, rfl, hm58⟩
  have mx58 := m41.back hm58 [(1, 1), (2, 2), (3, 3), (4, 4), (23, 7)] (by decide); clear hm58 m41
  have m58 : MemOk _ _ [(1, _), (2, _), (3, _), (4, _), (23, _), (20, _), (21, _), (22, _)] _ := mx58.only [1, 2, 3, 4, 23, 20, 21, 22]; clear mx58
  refine ⟨_, rfl, ?_⟩; clear Hz Az; intro Az Hz
  refine hK _ _ ?_; clear hK
  refine wpList_plain rfl (fun K hK => ?_)
  refine e_storeW Hz m58 22 rfl rfl rfl rfl rfl fct10 ?_
  clear m58; intro w60 m60 hB60
  clear hB60
  refine hK _ _ ?_; clear hK
  refine goCh Hz (.assign rfl .nil) ?_
  clear Hz Az; intro Az Hz
  refine znl (hK8 _ _ ?_); clear hK8
  refine wp_ret ?_
  try dsimp only [Exit.then, Exit.inBlock]
  refine (retCT (fn := Tryd.f86) Hz m60 (i := 22) rfl rfl rfl rfl U30 rfl fct10 ?_)
  exact ⟨ne, hi, fl, (ws ++ [((ws.length : Int) + 1, items)]), 0, _, _, rfl, by rw [doR, if_pos (by omega), putR, if_neg (by simp_all), wrR, if_pos (hib.1 (by simp_all))], m60.ren [(1, 1), (2, 2), (3, 3), (4, 4), (7, 23)] (by decide)⟩
 clear Hz; intro hb12 Hz; try simp only [QQ, Qax] at hb12
 refine wp_cond_false (Hz.ev (x := .tmp 10) rfl) ?_
 refine regS Hz (.eql rfl rfl <| .assign rfl <| .nil) ?_
 clear Hz Az; intro Az Hz
 refine bool_cases Hz (t := 10) rfl ?_ ?_
 ·
  clear Hz; intro hb64 Hz; try simp only [QQ, Qax] at hb64
  refine wp_cond_true (Hz.ev (x := .tmp 10) rfl) ?_
  refine zss (hK2 _ _ ?_); clear hK2
  refine wp_cond_true (Hz.ev (x := .tmp 10) rfl) ?_
  replace Hz : Has 197 [(2, _), (3, _), (4, _), (5, _), (10, _)] Az := Hz.only [2, 3, 4, 5, 10]
  refine regS Hz (.fa 7 rfl U30 <| .lb m6 20 U4 rfl rfl rfl <| .nil) ?_
  clear Hz Az; intro Az Hz
  refine bool_cases Hz (t := 16) rfl ?_ ?_
  ·
   clear Hz; intro hb68 Hz; try simp only [QQ, Qax] at hb68
   refine wp_cond_true (Hz.ev (x := .tmp 16) rfl) ?_
   refine zsr fun K9 hK9 => ?_
   refine goCh Hz (.loadBR m6 (i := 20) rfl rfl U30 rfl fct10 (by simp) (by dsimp only [List.drop, List.take] <;> rfl) .nil) ?_
   clear Hz Az; intro Az Hz
   refine wpList_plain rfl (fun K hK => ?_)
   refine e_storeW Hz m6 22 rfl rfl rfl rfl rfl fct10 ?_
   clear m6; intro w71 m71 hB71
   clear hB71
   refine hK _ _ ?_; clear hK
   refine goCh Hz (.assign rfl .nil) ?_
   clear Hz Az; intro Az Hz
   refine znl (hK9 _ _ ?_); clear hK9
   refine wp_ret ?_
   try dsimp only [Exit.then, Exit.inBlock]
   refine (retCT (fn := Tryd.f86) Hz m71 (i := 22) rfl rfl rfl rfl U30 rfl fct10 ?_)
   have m73 := m71.dat 23 rfl (m71.rd (i := 3) rfl); clear m71
   exact ⟨ne, hi, fl, ws, 28, _, _, rfl, by rw [doR, if_neg (by omega), if_pos (by omega), pruneR]; simp_all [reachR], m73.ren [(1, 1), (2, 2), (3, 3), (4, 4), (7, 23)] (by decide)⟩
  clear Hz; intro hb68 Hz; try simp only [QQ, Qax] at hb68
  refine wp_cond_false (Hz.ev (x := .tmp 16) rfl) ?_
  refine zss (hK1 _ _ ?_); clear hK1
  refine wp_seq_k (fun K10 hK10 => ?_)
  refine regS Hz (.fa 0 rfl U87 <| .lb m6 21 U3 rfl rfl rfl <| .nil) ?_
  clear Hz Az; intro Az Hz
  refine wp_block ?_
  refine regS Hz (.eql rfl rfl <| .assign rfl <| .nil) ?_
  clear Hz Az; intro Az Hz
  refine bool_cases Hz (t := 21) rfl ?_ ?_
  · intro hb _; exact absurd hb (by simp; omega)
  clear Hz; intro _ Hz
  refine wp_cond_false (Hz.ev (x := .tmp 21) rfl) ?_
  refine regS Hz (.eql rfl rfl <| .assign rfl <| .nil) ?_
  clear Hz Az; intro Az Hz
  refine bool_cases Hz (t := 36) rfl ?_ ?_
  rotate_left
  · intro hb _; exact absurd hb (by simp; omega)
  clear Hz; intro _ Hz
  refine wp_cond_true (Hz.ev (x := .tmp 36) rfl) ?_
  refine wp_seq_k (fun K11 hK11 => ?_)
  refine regS Hz (.fa 7 rfl U87 <| .lb m6 21 U2 rfl rfl rfl <| .fa 8 rfl U30 <| .lb m6 20 U2 rfl rfl rfl <| .lss rfl rfl <| .nil) ?_
  clear Hz Az; intro Az Hz
  refine bool_cases Hz (t := 42) rfl ?_ ?_
  ·
   clear Hz; intro hb87 Hz; try simp only [QQ, Qax] at hb87
   refine wp_cond_true (Hz.ev (x := .tmp 42) rfl) ?_
   replace Hz : Has 197 [(2, _), (3, _), (4, _), (5, _), (10, _), (16, _), (19, _), (21, _), (36, _), (42, _)] Az := Hz.only [2, 3, 4, 5, 10, 16, 19, 21, 36, 42]
   refine zsr fun K12 hK12 => ?_
   refine goCh Hz (.loadBR m6 (i := 20) rfl rfl U30 rfl fct10 (by simp) (by dsimp only [List.drop, List.take] <;> rfl) .nil) ?_
   clear Hz Az; intro Az Hz
   refine wpList_plain rfl (fun K hK => ?_)
   refine e_storeW Hz m6 22 rfl rfl rfl rfl rfl fct10 ?_
   clear m6; intro w91 m91 hB91
   clear hB91
   refine hK _ _ ?_; clear hK
   refine goCh Hz (.assign rfl .nil) ?_
   clear Hz Az; intro Az Hz
   refine znl (hK12 _ _ ?_); clear hK12
   refine wp_ret ?_
   try dsimp only [Exit.then, Exit.inBlock]
   refine (retCT (fn := Tryd.f86) Hz m91 (i := 22) rfl rfl rfl rfl U30 rfl fct10 ?_)
   have m93 := m91.dat 23 rfl (m91.rd (i := 3) rfl); clear m91
   exact ⟨ne, hi, fl, ws, 30, _, _, rfl, by rw [doR, if_neg (by omega), if_pos (by omega), pruneR]; rw [show reachR hi fl at0 (lowL ws.length pins) = 30 from by rw [reachR, if_neg (by simp_all), if_pos (by omega)]]; rfl, m93.ren [(1, 1), (2, 2), (3, 3), (4, 4), (7, 23)] (by decide)⟩
  clear Hz; intro hb87 Hz; try simp only [QQ, Qax] at hb87
  refine wp_cond_false (Hz.ev (x := .tmp 42) rfl) ?_
  refine zss (hK11 _ _ ?_); clear hK11
  refine wp_seq_k (fun K13 hK13 => ?_)
  refine wp_seq_k (fun K14 hK14 => ?_)
  replace Hz : Has 197 [(2, _), (3, _), (4, _), (5, _), (10, _), (16, _), (19, _), (21, _), (36, _), (42, _)] Az := Hz.only [2, 3, 4, 5, 10, 16, 19, 21, 36, 42]
  have m95 : MemOk _ _ [(1, _), (2, _), (3, _), (4, _), (20, _), (21, _), (22, _)] _ := m6.only [1, 2, 3, 4, 20, 21, 22]; clear m6
  refine region_p 5 (B := [(1, _), (2, _), (3, _), (4, _), (20, _), (21, _), (22, _)]) (m95.to ⟨il, il, il, il, il, il, il, trivial⟩) m95 (by kernel_rfl) (fun w96 hP96 m96 => ?_); clear m95
  refine goR hP96 [0, 1, 2] [1, 2] 3 0 7 Hz (m96.to ⟨il, il, il, il, il, il, il, trivial⟩) (.fa 7 rfl U87 <| .lb hh 21 U2 rfl rfl rfl <| .loadBR hh (i := 20) rfl rfl U30 rfl fct10 (by simp) (by dsimp only [List.drop, List.take] <;> rfl) <| .nil) ?_
  clear Hz Az; intro Az Hz
  refine stepE_only 3 rfl (by kernel_rfl) rfl (fun K hK => ?_)
  refine e_call Hz Tryd.func99 rfl rfl rfl rfl (rlow_any _ _ _ _ _ _ _ _ pins _ _ _ _ _ _ _ _ _ ((m96.rd (i := 2) rfl).any) hp) ?_
  rintro e w100 ⟨rfl, hb100⟩
  rw [List.length_map]
  have m101 := m96.later hb100
  clear m96
  clear hb100
  refine ⟨_, rfl, ?_⟩; clear Hz Az; intro Az Hz
  refine hK _ _ (m101.to ⟨il, il, il, il, il, il, il, trivial⟩) ?_; clear hK K
  refine goA hP96 [4] 1 15 31 Hz (m101.to ⟨il, il, il, il, il, il, il, trivial⟩) (.gtr rfl rfl <| .nil) ?_
  clear Hz Az; intro Az Hz
  refine wpAnyE_done (by kernel_rfl) ?_ _
  refine hK14 _ _ ?_; clear hK14
  refine bool_cases Hz (t := 48) rfl ?_ ?_
  ·
   clear Hz; intro hb104 Hz; try simp only [QQ, Qax] at hb104
   refine wp_cond_true (Hz.ev (x := .tmp 48) rfl) ?_
   refine zsr fun K15 hK15 => ?_
   refine goCh Hz (.loadBR m101 (i := 20) rfl rfl U30 rfl fct10 (by simp) (by dsimp only [List.drop, List.take] <;> rfl) .nil) ?_
   clear Hz Az; intro Az Hz
   refine wpList_plain rfl (fun K hK => ?_)
   refine e_storeW Hz m101 22 rfl rfl rfl rfl rfl fct10 ?_
   clear m101; intro w107 m107 hB107
   clear hB107
   refine hK _ _ ?_; clear hK
   refine goCh Hz (.assign rfl .nil) ?_
   clear Hz Az; intro Az Hz
   refine znl (hK15 _ _ ?_); clear hK15
   refine wp_ret ?_
   try dsimp only [Exit.then, Exit.inBlock]
   refine (retCT (fn := Tryd.f86) Hz m107 (i := 22) rfl rfl rfl rfl U30 rfl fct10 ?_)
   have m109 := m107.dat 23 rfl (m107.rd (i := 3) rfl); clear m107
   exact ⟨ne, hi, fl, ws, 31, _, _, rfl, by rw [doR, if_neg (by omega), if_pos (by omega), pruneR]; rw [show reachR hi fl at0 (lowL ws.length pins) = 31 from by rw [reachR, if_neg (by simp_all), if_neg (by omega), if_pos (by omega)]]; rfl, m109.ren [(1, 1), (2, 2), (3, 3), (4, 4), (7, 23)] (by decide)⟩
  clear Hz; intro hb104 Hz; try simp only [QQ, Qax] at hb104
  refine wp_cond_false (Hz.ev (x := .tmp 48) rfl) ?_
  refine zss (hK13 _ _ ?_); clear hK13
  refine wp_region_lit ?_
  refine goCh Hz (.fa 7 rfl U87 <| .lb m101 21 U2 rfl rfl rfl <| .fa 8 rfl U30 <| .nil) ?_
  clear Hz Az; intro Az Hz
  refine wpList_plain rfl (fun K hK => ?_)
  refine e_store1 Hz m101 20 rfl rfl rfl rfl rfl fct23 (by dsimp only [List.set] <;> rfl) ?_
  clear m101; intro w113 m113 hB113
  clear hB113
  refine hK _ _ ?_; clear hK
  refine znl (hK10 _ _ ?_); clear hK10
  replace Hz : Has 197 [(2, _), (4, _), (5, _), (10, _), (16, _), (21, _), (36, _), (42, _), (48, _)] Az := Hz.only [2, 4, 5, 10, 16, 21, 36, 42, 48]
  refine zsr fun K16 hK16 => ?_
  refine goCh Hz (.loadBR m113 (i := 20) rfl rfl U30 rfl fct10 (by simp) (by dsimp only [List.drop, List.take] <;> rfl) .nil) ?_
  clear Hz Az; intro Az Hz
  refine wpList_plain rfl (fun K hK => ?_)
  refine e_storeW Hz m113 22 rfl rfl rfl rfl rfl fct10 ?_
  clear m113; intro w117 m117 hB117
  clear hB117
  refine hK _ _ ?_; clear hK
  refine goCh Hz (.assign rfl .nil) ?_
  clear Hz Az; intro Az Hz
  refine znl (hK16 _ _ ?_); clear hK16
  refine wp_ret ?_
  try dsimp only [Exit.then, Exit.inBlock]
  refine (retCT (fn := Tryd.f86) Hz m117 (i := 22) rfl rfl rfl rfl U30 rfl fct10 ?_)
  have m119 := m117.dat 23 rfl (m117.rd (i := 3) rfl); clear m117
  exact ⟨ne, hi, at0, ws, 0, _, _, rfl, by rw [doR, if_neg (by omega), if_pos (by omega), pruneR]; rw [show reachR hi fl at0 (lowL ws.length pins) = 0 from by rw [reachR, if_neg (by simp_all), if_neg (by omega), if_neg (by omega)]]; rfl, m119.ren [(1, 1), (2, 2), (3, 3), (4, 4), (7, 23)] (by decide)⟩
 clear Hz; intro hb64 Hz; try simp only [QQ, Qax] at hb64
 refine wp_cond_false (Hz.ev (x := .tmp 10) rfl) ?_
 refine regS Hz (.eql rfl rfl <| .assign rfl <| .nil) ?_
 clear Hz Az; intro Az Hz
 refine bool_cases Hz (t := 10) rfl ?_ ?_
 · intro hb _; exact absurd hb (by simp; omega)
 clear Hz; intro _ Hz
 refine wp_cond_false (Hz.ev (x := .tmp 10) rfl) ?_
 replace Hz : Has 197 [(2, _), (3, _), (4, _), (5, _), (9, _), (10, _)] Az := Hz.only [2, 3, 4, 5, 9, 10]
 refine wp_region_lit ?_
 refine goCh Hz (.eql rfl rfl <| .assign rfl <| .nil) ?_
 clear Hz Az; intro Az Hz
 refine znl (hK2 _ _ ?_); clear hK2
 refine bool_cases Hz (t := 10) rfl ?_ ?_
 · intro hb _; exact absurd hb (by simp; omega)
 clear Hz; intro _ Hz
 refine wp_cond_false (Hz.ev (x := .tmp 10) rfl) ?_
 refine zss (hK1 _ _ ?_); clear hK1
 refine wp_seq_k (fun K17 hK17 => ?_)
 refine regS Hz (.fa 0 rfl U87 <| .lb m6 21 U3 rfl rfl rfl <| .nil) ?_
 clear Hz Az; intro Az Hz
 refine wp_block ?_
 refine regS Hz (.eql rfl rfl <| .assign rfl <| .nil) ?_
 clear Hz Az; intro Az Hz
 refine bool_cases Hz (t := 21) rfl ?_ ?_
 · intro hb _; exact absurd hb (by simp; omega)
 clear Hz; intro _ Hz
 refine wp_cond_false (Hz.ev (x := .tmp 21) rfl) ?_
 refine regS Hz (.eql rfl rfl <| .assign rfl <| .nil) ?_
 clear Hz Az; intro Az Hz
 refine bool_cases Hz (t := 36) rfl ?_ ?_
 · intro hb _; exact absurd hb (by simp; omega)
 clear Hz; intro _ Hz
 refine wp_cond_false (Hz.ev (x := .tmp 36) rfl) ?_
 refine regS Hz (.eql rfl rfl <| .assign rfl <| .nil) ?_
 clear Hz Az; intro Az Hz
 refine bool_cases Hz (t := 53) rfl ?_ ?_
 · intro hb _; exact absurd hb (by simp; omega)
 clear Hz; intro _ Hz
 refine wp_cond_false (Hz.ev (x := .tmp 53) rfl) ?_
 replace Hz : Has 197 [(2, _), (3, _), (4, _), (5, _), (10, _), (19, _), (21, _), (36, _)] Az := Hz.only [2, 3, 4, 5, 10, 19, 21, 36]
 refine regS Hz (.eql rfl rfl <| .assign rfl <| .nil) ?_
 clear Hz Az; intro Az Hz
 refine bool_cases Hz (t := 99) rfl ?_ ?_
 · intro hb _; exact absurd hb (by simp; omega)
 clear Hz; intro _ Hz
 refine wp_cond_false (Hz.ev (x := .tmp 99) rfl) ?_
 refine regS Hz (.eql rfl rfl <| .assign rfl <| .nil) ?_
 clear Hz Az; intro Az Hz
 refine bool_cases Hz (t := 130) rfl ?_ ?_
 ·
  clear Hz; intro hb144 Hz; try simp only [QQ, Qax] at hb144
  refine wp_cond_true (Hz.ev (x := .tmp 130) rfl) ?_
  refine wp_seq_k (fun K18 hK18 => ?_)
  refine regS Hz (.fa 7 rfl U30 <| .lb m6 20 U4 rfl rfl rfl <| .not rfl <| .nil) ?_
  clear Hz Az; intro Az Hz
  refine bool_cases Hz (t := 134) rfl ?_ ?_
  ·
   clear Hz; intro hb148 Hz; try simp only [QQ, Qax] at hb148
   refine wp_cond_true (Hz.ev (x := .tmp 134) rfl) ?_
   refine zsr fun K19 hK19 => ?_
   refine goCh Hz (.loadBR m6 (i := 20) rfl rfl U30 rfl fct10 (by simp) (by dsimp only [List.drop, List.take] <;> rfl) .nil) ?_
   clear Hz Az; intro Az Hz
   refine wpList_plain rfl (fun K hK => ?_)
   refine e_storeW Hz m6 22 rfl rfl rfl rfl rfl fct10 ?_
   clear m6; intro w151 m151 hB151
   clear hB151
   refine hK _ _ ?_; clear hK
   refine goCh Hz (.assign rfl .nil) ?_
   clear Hz Az; intro Az Hz
   refine znl (hK19 _ _ ?_); clear hK19
   refine wp_ret ?_
   try dsimp only [Exit.then, Exit.inBlock]
   refine (retCT (fn := Tryd.f86) Hz m151 (i := 22) rfl rfl rfl rfl U30 rfl fct10 ?_)
   have m153 := m151.dat 23 rfl (m151.rd (i := 3) rfl); clear m151
   exact ⟨ne, hi, fl, ws, 33, _, _, rfl, by rw [doR, if_neg (by omega), if_neg (by omega), if_pos (by omega), takeR, if_pos (by simp_all)], m153.ren [(1, 1), (2, 2), (3, 3), (4, 4), (7, 23)] (by decide)⟩
  clear Hz; intro hb148 Hz; try simp only [QQ, Qax] at hb148
  refine wp_cond_false (Hz.ev (x := .tmp 134) rfl) ?_
  refine zss (hK18 _ _ ?_); clear hK18
  refine wp_seq_k (fun K20 hK20 => ?_)
  refine zsr fun K21 hK21 => ?_
  refine goCh Hz (.fa 8 rfl U87 <| .lb m6 21 U3 rfl rfl rfl <| .geq rfl rfl <| .move rfl <| .nil) ?_
  clear Hz Az; intro Az Hz
  refine bool_cases Hz (t := 139) rfl ?_ ?_
  ·
   clear Hz; intro hb162 Hz; try simp only [QQ, Qax] at hb162
   refine goCh Hz (.faZ 8 rfl U87 <| .loadB1Z m6 (i := 21) rfl rfl rfl U3 rfl <| .faZ 6 rfl U30 <| .loadB1Z m6 (i := 20) rfl rfl rfl U3 rfl <| .lssZ rfl rfl <| .pickT rfl rfl <| .nil) ?_
   clear Hz Az; intro Az Hz
   refine znl (hK21 _ _ ?_); clear hK21
   refine bool_cases Hz (t := 145) rfl ?_ ?_
   ·
    clear Hz; intro hb169 Hz; try simp only [QQ, Qax] at hb169
    refine wp_cond_true (Hz.ev (x := .tmp 145) rfl) ?_
    replace Hz : Has 197 [(2, _), (3, _), (4, _), (5, _), (10, _), (19, _), (21, _), (36, _), (130, _), (134, _), (139, _), (145, _)] Az := Hz.only [2, 3, 4, 5, 10, 19, 21, 36, 130, 134, 139, 145]
    refine zsr fun K22 hK22 => ?_
    refine goCh Hz (.loadBR m6 (i := 20) rfl rfl U30 rfl fct10 (by simp) (by dsimp only [List.drop, List.take] <;> rfl) .nil) ?_
    clear Hz Az; intro Az Hz
    refine wpList_plain rfl (fun K hK => ?_)
    refine e_storeW Hz m6 22 rfl rfl rfl rfl rfl fct10 ?_
    clear m6; intro w173 m173 hB173
    clear hB173
    refine hK _ _ ?_; clear hK
    refine goCh Hz (.assign rfl .nil) ?_
    clear Hz Az; intro Az Hz
    refine znl (hK22 _ _ ?_); clear hK22
    refine wp_ret ?_
    try dsimp only [Exit.then, Exit.inBlock]
    refine (retCT (fn := Tryd.f86) Hz m173 (i := 22) rfl rfl rfl rfl U30 rfl fct10 ?_)
    have m175 := m173.dat 23 rfl (m173.rd (i := 3) rfl); clear m173
    exact ⟨ne, hi, fl, ws, 0, _, _, rfl, by rw [doR, if_neg (by omega), if_neg (by omega), if_pos (by omega), takeR, if_neg (by simp_all), if_pos (by omega)], m175.ren [(1, 1), (2, 2), (3, 3), (4, 4), (7, 23)] (by decide)⟩
   clear Hz; intro hb169 Hz; try simp only [QQ, Qax] at hb169
   refine wp_cond_false (Hz.ev (x := .tmp 145) rfl) ?_
   refine zss (hK20 _ _ ?_); clear hK20
   refine wp_seq_k (fun K23 hK23 => ?_)
   replace Hz : Has 197 [(2, _), (3, _), (4, _), (5, _), (10, _), (19, _), (21, _), (36, _), (130, _), (134, _), (139, _), (145, _)] Az := Hz.only [2, 3, 4, 5, 10, 19, 21, 36, 130, 134, 139, 145]
   refine zsr fun K24 hK24 => ?_
   refine goCh Hz (.fa 8 rfl U87 <| .lb m6 21 U3 rfl rfl rfl <| .fa 6 rfl U30 <| .lb m6 20 U3 rfl rfl rfl <| .neq rfl rfl <| .move rfl <| .nil) ?_
   clear Hz Az; intro Az Hz
   refine bool_cases Hz (t := 152) rfl ?_ ?_
   ·
    clear Hz; intro hb189 Hz; try simp only [QQ, Qax] at hb189
    refine goCh Hz (.sk <| .sk <| .sk <| .sk <| .sk <| .pickT rfl rfl <| .nil) ?_
    clear Hz Az; intro Az Hz
    refine znl (hK24 _ _ ?_); clear hK24
    refine wp_cond_true (Hz.ev (x := .tmp 158) rfl) ?_
    replace Hz : Has 197 [(2, _), (3, _), (4, _), (5, _), (10, _), (19, _), (21, _), (36, _), (130, _), (134, _), (139, _), (145, _), (152, _), (158, _)] Az := Hz.only [2, 3, 4, 5, 10, 19, 21, 36, 130, 134, 139, 145, 152, 158]
    refine zsr fun K25 hK25 => ?_
    refine goCh Hz (.loadBR m6 (i := 20) rfl rfl U30 rfl fct10 (by simp) (by dsimp only [List.drop, List.take] <;> rfl) .nil) ?_
    clear Hz Az; intro Az Hz
    refine wpList_plain rfl (fun K hK => ?_)
    refine e_storeW Hz m6 22 rfl rfl rfl rfl rfl fct10 ?_
    clear m6; intro w199 m199 hB199
    clear hB199
    refine hK _ _ ?_; clear hK
    refine goCh Hz (.assign rfl .nil) ?_
    clear Hz Az; intro Az Hz
    refine znl (hK25 _ _ ?_); clear hK25
    refine wp_ret ?_
    try dsimp only [Exit.then, Exit.inBlock]
    refine (retCT (fn := Tryd.f86) Hz m199 (i := 22) rfl rfl rfl rfl U30 rfl fct10 ?_)
    have m201 := m199.dat 23 rfl (m199.rd (i := 3) rfl); clear m199
    exact ⟨ne, hi, fl, ws, 33, _, _, rfl, by rw [doR, if_neg (by omega), if_neg (by omega), if_pos (by omega), takeR, if_neg (by simp_all), if_neg (by omega), if_pos (by omega)], m201.ren [(1, 1), (2, 2), (3, 3), (4, 4), (7, 23)] (by decide)⟩
   clear Hz; intro hb189 Hz; try simp only [QQ, Qax] at hb189
   refine goCh Hz (.faZ 6 rfl U30 <| .loadB1Z m6 (i := 20) rfl rfl rfl U3 rfl <| .faZ 5 rfl U30 <| .loadB1Z m6 (i := 20) rfl rfl rfl U3 rfl <| .eqlZ rfl rfl <| .pickF rfl rfl <| .nil) ?_
   clear Hz Az; intro Az Hz
   refine znl (hK24 _ _ ?_); clear hK24
   refine bool_cases Hz (t := 158) rfl ?_ ?_
   ·
    clear Hz; intro hb208 Hz; try simp only [QQ, Qax] at hb208
    refine wp_cond_true (Hz.ev (x := .tmp 158) rfl) ?_
    replace Hz : Has 197 [(2, _), (3, _), (4, _), (5, _), (10, _), (19, _), (21, _), (36, _), (130, _), (134, _), (139, _), (145, _), (152, _), (158, _)] Az := Hz.only [2, 3, 4, 5, 10, 19, 21, 36, 130, 134, 139, 145, 152, 158]
    refine zsr fun K26 hK26 => ?_
    refine goCh Hz (.loadBR m6 (i := 20) rfl rfl U30 rfl fct10 (by simp) (by dsimp only [List.drop, List.take] <;> rfl) .nil) ?_
    clear Hz Az; intro Az Hz
    refine wpList_plain rfl (fun K hK => ?_)
    refine e_storeW Hz m6 22 rfl rfl rfl rfl rfl fct10 ?_
    clear m6; intro w212 m212 hB212
    clear hB212
    refine hK _ _ ?_; clear hK
    refine goCh Hz (.assign rfl .nil) ?_
    clear Hz Az; intro Az Hz
    refine znl (hK26 _ _ ?_); clear hK26
    refine wp_ret ?_
    try dsimp only [Exit.then, Exit.inBlock]
    refine (retCT (fn := Tryd.f86) Hz m212 (i := 22) rfl rfl rfl rfl U30 rfl fct10 ?_)
    have m214 := m212.dat 23 rfl (m212.rd (i := 3) rfl); clear m212
    exact ⟨ne, hi, fl, ws, 33, _, _, rfl, by rw [doR, if_neg (by omega), if_neg (by omega), if_pos (by omega), takeR, if_neg (by simp_all), if_neg (by omega), if_pos (by omega)], m214.ren [(1, 1), (2, 2), (3, 3), (4, 4), (7, 23)] (by decide)⟩
   clear Hz; intro hb208 Hz; try simp only [QQ, Qax] at hb208
   refine wp_cond_false (Hz.ev (x := .tmp 158) rfl) ?_
   refine zss (hK23 _ _ ?_); clear hK23
   refine wp_seq_k (fun K27 hK27 => ?_)
   replace Hz : Has 197 [(2, _), (3, _), (4, _), (5, _), (10, _), (19, _), (21, _), (36, _), (130, _), (134, _), (139, _), (145, _), (152, _), (158, _)] Az := Hz.only [2, 3, 4, 5, 10, 19, 21, 36, 130, 134, 139, 145, 152, 158]
   refine zsr fun K28 hK28 => ?_
   refine goCh Hz (.fa 1 rfl U30 <| .lb m6 20 U3 rfl rfl rfl <| .fa 2 rfl U30 <| .lb m6 20 U3 rfl rfl rfl <| .fa 9 rfl U87 <| .lb m6 21 U33 rfl rfl rfl <| .nil) ?_
   clear Hz Az; intro Az Hz
   refine wpList_plain rfl (fun K hK => ?_)
   refine e_call Hz Tryd.func97 rfl rfl rfl rfl (ritems_any _ _ items _ _ _ _ ((m6.rd (i := 4) rfl).any) hil) ?_
   rintro e w228 ⟨ib, rfl, hib, hb228⟩
   have m229 := m6.later hb228
   clear m6
   clear hb228
   refine ⟨_, rfl, ?_⟩; clear Hz Az; intro Az Hz
   refine hK _ _ ?_; clear hK
   refine goCh Hz (.not rfl .nil) ?_
   clear Hz Az; intro Az Hz
   refine znl (hK28 _ _ ?_); clear hK28
   refine bool_cases Hz (t := 167) rfl ?_ ?_
   ·
    clear Hz; intro hb232 Hz; try simp only [QQ, Qax] at hb232
    refine wp_cond_true (Hz.ev (x := .tmp 167) rfl) ?_
    replace Hz : Has 197 [(2, _), (3, _), (4, _), (5, _), (10, _), (19, _), (21, _), (36, _), (130, _), (134, _), (139, _), (145, _), (152, _), (158, _), (167, _)] Az := Hz.only [2, 3, 4, 5, 10, 19, 21, 36, 130, 134, 139, 145, 152, 158, 167]
    refine zsr fun K29 hK29 => ?_
    refine goCh Hz (.loadBR m229 (i := 20) rfl rfl U30 rfl fct10 (by simp) (by dsimp only [List.drop, List.take] <;> rfl) .nil) ?_
    clear Hz Az; intro Az Hz
    refine wpList_plain rfl (fun K hK => ?_)
    refine e_storeW Hz m229 22 rfl rfl rfl rfl rfl fct10 ?_
    clear m229; intro w236 m236 hB236
    clear hB236
    refine hK _ _ ?_; clear hK
    refine goCh Hz (.assign rfl .nil) ?_
    clear Hz Az; intro Az Hz
    refine znl (hK29 _ _ ?_); clear hK29
    refine wp_ret ?_
    try dsimp only [Exit.then, Exit.inBlock]
    refine (retCT (fn := Tryd.f86) Hz m236 (i := 22) rfl rfl rfl rfl U30 rfl fct10 ?_)
    have m238 := m236.dat 23 rfl (m236.rd (i := 3) rfl); clear m236
    exact ⟨ne, hi, fl, ws, 23, _, _, rfl, by rw [doR, if_neg (by omega), if_neg (by omega), if_pos (by omega), takeR, if_neg (by simp_all), if_neg (by omega), if_neg (by omega), show wrR bl sz ws items = (ws, 23) from by rw [wrR, if_neg (fun h => by have h9 := hib.2 h; simp_all)]]; rfl, m238.ren [(1, 1), (2, 2), (3, 3), (4, 4), (7, 23)] (by decide)⟩
   clear Hz; intro hb232 Hz; try simp only [QQ, Qax] at hb232
   refine wp_cond_false (Hz.ev (x := .tmp 167) rfl) ?_
   refine zss (hK27 _ _ ?_); clear hK27
   replace Hz : Has 197 [(2, _), (3, _), (4, _), (5, _), (10, _), (19, _), (21, _), (36, _), (130, _), (134, _), (139, _), (145, _), (152, _), (158, _), (167, _)] Az := Hz.only [2, 3, 4, 5, 10, 19, 21, 36, 130, 134, 139, 145, 152, 158, 167]
   refine zsr fun K30 hK30 => ?_
   refine goCh Hz (.loadBR m229 (i := 20) rfl rfl U30 rfl fct10 (by simp) (by dsimp only [List.drop, List.take] <;> rfl) <| .fa 9 rfl U87 <| .lb m229 21 U33 rfl rfl rfl <| .nil) ?_
   clear Hz Az; intro Az Hz
   refine wpList_plain rfl (fun K hK => ?_)
   refine e_call Hz Tryd.func98 rfl rfl rfl rfl (rwrite_fr _ _ _ _ _ _ _ _ _ place pins ws items _ _ _ _ _ _ _ _ _ hl hil hio (m229.into [(1, 1), (2, 2), (3, 3), (4, 4)] (by decide) rfl)) ?_
   rintro e w246 ⟨p246, c246, rfl, hm246⟩
   have mx246 := m229.back hm246 [(1, 1), (2, 2), (3, 3), (4, 4), (23, 7)] (by decide); clear hm246 m229
   have m246 : MemOk _ _ [(1, _), (2, _), (3, _), (4, _), (23, _), (20, _), (21, _), (22, _)] _ := mx246.only [1, 2, 3, 4, 23, 20, 21, 22]; clear mx246
   refine ⟨_, rfl, ?_⟩; clear Hz Az; intro Az Hz
   refine hK _ _ ?_; clear hK
   refine wpList_plain rfl (fun K hK => ?_)
   refine e_storeW Hz m246 20 rfl rfl rfl rfl rfl fct10 ?_
   clear m246; intro w248 m248 hB248
   clear hB248
   refine hK _ _ ?_; clear hK
   refine znl (hK30 _ _ ?_); clear hK30
   refine wp_region_lit ?_
   refine goCh Hz (.fa 6 rfl U30 <| .lb m248 20 U3 rfl rfl rfl <| .add rfl rfl (r := ne + 1) (IntWalk.i64_in _ (by omega)) <| .fa 6 rfl U30 <| .nil) ?_
   clear Hz Az; intro Az Hz
   refine wpList_plain rfl (fun K hK => ?_)
   refine e_store1 Hz m248 20 rfl rfl rfl rfl rfl fct8 (by dsimp only [List.set] <;> rfl) ?_
   clear m248; intro w253 m253 hB253
   clear hB253
   refine hK _ _ ?_; clear hK
   refine znl (hK17 _ _ ?_); clear hK17
   replace Hz : Has 197 [(2, _), (4, _), (5, _), (10, _), (21, _), (36, _), (130, _), (134, _), (139, _), (145, _), (152, _), (158, _), (167, _)] Az := Hz.only [2, 4, 5, 10, 21, 36, 130, 134, 139, 145, 152, 158, 167]
   refine zsr fun K31 hK31 => ?_
   refine goCh Hz (.loadBR m253 (i := 20) rfl rfl U30 rfl fct10 (by simp) (by dsimp only [List.drop, List.take] <;> rfl) .nil) ?_
   clear Hz Az; intro Az Hz
   refine wpList_plain rfl (fun K hK => ?_)
   refine e_storeW Hz m253 22 rfl rfl rfl rfl rfl fct10 ?_
   clear m253; intro w257 m257 hB257
   clear hB257
   refine hK _ _ ?_; clear hK
   refine goCh Hz (.assign rfl .nil) ?_
   clear Hz Az; intro Az Hz
   refine znl (hK31 _ _ ?_); clear hK31
   refine wp_ret ?_
   try dsimp only [Exit.then, Exit.inBlock]
   refine (retCT (fn := Tryd.f86) Hz m257 (i := 22) rfl rfl rfl rfl U30 rfl fct10 ?_)
   exact ⟨(ne + 1), hi, fl, (ws ++ [((ws.length : Int) + 1, items)]), 0, _, _, rfl, by rw [doR, if_neg (by omega), if_neg (by omega), if_pos (by omega), takeR, if_neg (by simp_all), if_neg (by omega), if_neg (by omega), show wrR bl sz ws items = ((ws ++ [((ws.length : Int) + 1, items)]), 0) from by rw [wrR, if_pos (hib.1 (by simp_all))]]; rfl, m257.ren [(1, 1), (2, 2), (3, 3), (4, 4), (7, 23)] (by decide)⟩
  clear Hz; intro hb162 Hz; try simp only [QQ, Qax] at hb162
  refine goCh Hz (.sk <| .sk <| .sk <| .sk <| .sk <| .pickF rfl rfl <| .nil) ?_
  clear Hz Az; intro Az Hz
  refine znl (hK21 _ _ ?_); clear hK21
  refine wp_cond_false (Hz.ev (x := .tmp 145) rfl) ?_
  refine zss (hK20 _ _ ?_); clear hK20
  refine wp_seq_k (fun K32 hK32 => ?_)
  replace Hz : Has 197 [(2, _), (3, _), (4, _), (5, _), (10, _), (19, _), (21, _), (36, _), (130, _), (134, _), (139, _), (145, _)] Az := Hz.only [2, 3, 4, 5, 10, 19, 21, 36, 130, 134, 139, 145]
  refine zsr fun K33 hK33 => ?_
  refine goCh Hz (.fa 8 rfl U87 <| .lb m6 21 U3 rfl rfl rfl <| .fa 6 rfl U30 <| .lb m6 20 U3 rfl rfl rfl <| .neq rfl rfl <| .move rfl <| .nil) ?_
  clear Hz Az; intro Az Hz
  refine bool_cases Hz (t := 152) rfl ?_ ?_
  ·
   clear Hz; intro hb278 Hz; try simp only [QQ, Qax] at hb278
   refine goCh Hz (.sk <| .sk <| .sk <| .sk <| .sk <| .pickT rfl rfl <| .nil) ?_
   clear Hz Az; intro Az Hz
   refine znl (hK33 _ _ ?_); clear hK33
   refine wp_cond_true (Hz.ev (x := .tmp 158) rfl) ?_
   replace Hz : Has 197 [(2, _), (3, _), (4, _), (5, _), (10, _), (19, _), (21, _), (36, _), (130, _), (134, _), (139, _), (145, _), (152, _), (158, _)] Az := Hz.only [2, 3, 4, 5, 10, 19, 21, 36, 130, 134, 139, 145, 152, 158]
   refine zsr fun K34 hK34 => ?_
   refine goCh Hz (.loadBR m6 (i := 20) rfl rfl U30 rfl fct10 (by simp) (by dsimp only [List.drop, List.take] <;> rfl) .nil) ?_
   clear Hz Az; intro Az Hz
   refine wpList_plain rfl (fun K hK => ?_)
   refine e_storeW Hz m6 22 rfl rfl rfl rfl rfl fct10 ?_
   clear m6; intro w288 m288 hB288
   clear hB288
   refine hK _ _ ?_; clear hK
   refine goCh Hz (.assign rfl .nil) ?_
   clear Hz Az; intro Az Hz
   refine znl (hK34 _ _ ?_); clear hK34
   refine wp_ret ?_
   try dsimp only [Exit.then, Exit.inBlock]
   refine (retCT (fn := Tryd.f86) Hz m288 (i := 22) rfl rfl rfl rfl U30 rfl fct10 ?_)
   have m290 := m288.dat 23 rfl (m288.rd (i := 3) rfl); clear m288
   exact ⟨ne, hi, fl, ws, 33, _, _, rfl, by rw [doR, if_neg (by omega), if_neg (by omega), if_pos (by omega), takeR, if_neg (by simp_all), if_neg (by omega), if_pos (by omega)], m290.ren [(1, 1), (2, 2), (3, 3), (4, 4), (7, 23)] (by decide)⟩
  clear Hz; intro hb278 Hz; try simp only [QQ, Qax] at hb278
  refine goCh Hz (.faZ 6 rfl U30 <| .loadB1Z m6 (i := 20) rfl rfl rfl U3 rfl <| .faZ 5 rfl U30 <| .loadB1Z m6 (i := 20) rfl rfl rfl U3 rfl <| .eqlZ rfl rfl <| .pickF rfl rfl <| .nil) ?_
  clear Hz Az; intro Az Hz
  refine znl (hK33 _ _ ?_); clear hK33
  refine bool_cases Hz (t := 158) rfl ?_ ?_
  ·
   clear Hz; intro hb297 Hz; try simp only [QQ, Qax] at hb297
   refine wp_cond_true (Hz.ev (x := .tmp 158) rfl) ?_
   replace Hz : Has 197 [(2, _), (3, _), (4, _), (5, _), (10, _), (19, _), (21, _), (36, _), (130, _), (134, _), (139, _), (145, _), (152, _), (158, _)] Az := Hz.only [2, 3, 4, 5, 10, 19, 21, 36, 130, 134, 139, 145, 152, 158]
   refine zsr fun K35 hK35 => ?_
   refine goCh Hz (.loadBR m6 (i := 20) rfl rfl U30 rfl fct10 (by simp) (by dsimp only [List.drop, List.take] <;> rfl) .nil) ?_
   clear Hz Az; intro Az Hz
   refine wpList_plain rfl (fun K hK => ?_)
   refine e_storeW Hz m6 22 rfl rfl rfl rfl rfl fct10 ?_
   clear m6; intro w301 m301 hB301
   clear hB301
   refine hK _ _ ?_; clear hK
   refine goCh Hz (.assign rfl .nil) ?_
   clear Hz Az; intro Az Hz
   refine znl (hK35 _ _ ?_); clear hK35
   refine wp_ret ?_
   try dsimp only [Exit.then, Exit.inBlock]
   refine (retCT (fn := Tryd.f86) Hz m301 (i := 22) rfl rfl rfl rfl U30 rfl fct10 ?_)
   have m303 := m301.dat 23 rfl (m301.rd (i := 3) rfl); clear m301
   exact ⟨ne, hi, fl, ws, 33, _, _, rfl, by rw [doR, if_neg (by omega), if_neg (by omega), if_pos (by omega), takeR, if_neg (by simp_all), if_neg (by omega), if_pos (by omega)], m303.ren [(1, 1), (2, 2), (3, 3), (4, 4), (7, 23)] (by decide)⟩
  clear Hz; intro hb297 Hz; try simp only [QQ, Qax] at hb297
  refine wp_cond_false (Hz.ev (x := .tmp 158) rfl) ?_
  refine zss (hK32 _ _ ?_); clear hK32
  refine wp_seq_k (fun K36 hK36 => ?_)
  replace Hz : Has 197 [(2, _), (3, _), (4, _), (5, _), (10, _), (19, _), (21, _), (36, _), (130, _), (134, _), (139, _), (145, _), (152, _), (158, _)] Az := Hz.only [2, 3, 4, 5, 10, 19, 21, 36, 130, 134, 139, 145, 152, 158]
  refine zsr fun K37 hK37 => ?_
  refine goCh Hz (.fa 1 rfl U30 <| .lb m6 20 U3 rfl rfl rfl <| .fa 2 rfl U30 <| .lb m6 20 U3 rfl rfl rfl <| .fa 9 rfl U87 <| .lb m6 21 U33 rfl rfl rfl <| .nil) ?_
  clear Hz Az; intro Az Hz
  refine wpList_plain rfl (fun K hK => ?_)
  refine e_call Hz Tryd.func97 rfl rfl rfl rfl (ritems_any _ _ items _ _ _ _ ((m6.rd (i := 4) rfl).any) hil) ?_
  rintro e w317 ⟨ib, rfl, hib, hb317⟩
  have m318 := m6.later hb317
  clear m6
  clear hb317
  refine ⟨_, rfl, ?_⟩; clear Hz Az; intro Az Hz
  refine hK _ _ ?_; clear hK
  refine goCh Hz (.not rfl .nil) ?_
  clear Hz Az; intro Az Hz
  refine znl (hK37 _ _ ?_); clear hK37
  refine bool_cases Hz (t := 167) rfl ?_ ?_
  ·
   clear Hz; intro hb321 Hz; try simp only [QQ, Qax] at hb321
   refine wp_cond_true (Hz.ev (x := .tmp 167) rfl) ?_
   replace Hz : Has 197 [(2, _), (3, _), (4, _), (5, _), (10, _), (19, _), (21, _), (36, _), (130, _), (134, _), (139, _), (145, _), (152, _), (158, _), (167, _)] Az := Hz.only [2, 3, 4, 5, 10, 19, 21, 36, 130, 134, 139, 145, 152, 158, 167]
   refine zsr fun K38 hK38 => ?_
   refine goCh Hz (.loadBR m318 (i := 20) rfl rfl U30 rfl fct10 (by simp) (by dsimp only [List.drop, List.take] <;> rfl) .nil) ?_
   clear Hz Az; intro Az Hz
   refine wpList_plain rfl (fun K hK => ?_)
   refine e_storeW Hz m318 22 rfl rfl rfl rfl rfl fct10 ?_
   clear m318; intro w325 m325 hB325
   clear hB325
   refine hK _ _ ?_; clear hK
   refine goCh Hz (.assign rfl .nil) ?_
   clear Hz Az; intro Az Hz
   refine znl (hK38 _ _ ?_); clear hK38
   refine wp_ret ?_
   try dsimp only [Exit.then, Exit.inBlock]
   refine (retCT (fn := Tryd.f86) Hz m325 (i := 22) rfl rfl rfl rfl U30 rfl fct10 ?_)
   have m327 := m325.dat 23 rfl (m325.rd (i := 3) rfl); clear m325
   exact ⟨ne, hi, fl, ws, 23, _, _, rfl, by rw [doR, if_neg (by omega), if_neg (by omega), if_pos (by omega), takeR, if_neg (by simp_all), if_neg (by omega), if_neg (by omega), show wrR bl sz ws items = (ws, 23) from by rw [wrR, if_neg (fun h => by have h9 := hib.2 h; simp_all)]]; rfl, m327.ren [(1, 1), (2, 2), (3, 3), (4, 4), (7, 23)] (by decide)⟩
  clear Hz; intro hb321 Hz; try simp only [QQ, Qax] at hb321
  refine wp_cond_false (Hz.ev (x := .tmp 167) rfl) ?_
  refine zss (hK36 _ _ ?_); clear hK36
  replace Hz : Has 197 [(2, _), (3, _), (4, _), (5, _), (10, _), (19, _), (21, _), (36, _), (130, _), (134, _), (139, _), (145, _), (152, _), (158, _), (167, _)] Az := Hz.only [2, 3, 4, 5, 10, 19, 21, 36, 130, 134, 139, 145, 152, 158, 167]
  refine zsr fun K39 hK39 => ?_
  refine goCh Hz (.loadBR m318 (i := 20) rfl rfl U30 rfl fct10 (by simp) (by dsimp only [List.drop, List.take] <;> rfl) <| .fa 9 rfl U87 <| .lb m318 21 U33 rfl rfl rfl <| .nil) ?_
  clear Hz Az; intro Az Hz
  refine wpList_plain rfl (fun K hK => ?_)
  refine e_call Hz Tryd.func98 rfl rfl rfl rfl (rwrite_fr _ _ _ _ _ _ _ _ _ place pins ws items _ _ _ _ _ _ _ _ _ hl hil hio (m318.into [(1, 1), (2, 2), (3, 3), (4, 4)] (by decide) rfl)) ?_
  rintro e w335 ⟨p335, c335, rfl, hm335⟩
  have mx335 := m318.back hm335 [(1, 1), (2, 2), (3, 3), (4, 4), (23, 7)] (by decide); clear hm335 m318
  have m335 : MemOk _ _ [(1, _), (2, _), (3, _), (4, _), (23, _), (20, _), (21, _), (22, _)] _ := mx335.only [1, 2, 3, 4, 23, 20, 21, 22]; clear mx335
  refine ⟨_, rfl, ?_⟩; clear Hz Az; intro Az Hz
  refine hK _ _ ?_; clear hK
  refine wpList_plain rfl (fun K hK => ?_)
  refine e_storeW Hz m335 20 rfl rfl rfl rfl rfl fct10 ?_
  clear m335; intro w337 m337 hB337
  clear hB337
  refine hK _ _ ?_; clear hK
  refine znl (hK39 _ _ ?_); clear hK39
  refine wp_region_lit ?_
  refine goCh Hz (.fa 6 rfl U30 <| .lb m337 20 U3 rfl rfl rfl <| .add rfl rfl (r := ne + 1) (IntWalk.i64_in _ (by omega)) <| .fa 6 rfl U30 <| .nil) ?_
  clear Hz Az; intro Az Hz
  refine wpList_plain rfl (fun K hK => ?_)
  refine e_store1 Hz m337 20 rfl rfl rfl rfl rfl fct8 (by dsimp only [List.set] <;> rfl) ?_
  clear m337; intro w342 m342 hB342
  clear hB342
  refine hK _ _ ?_; clear hK
  refine znl (hK17 _ _ ?_); clear hK17
  replace Hz : Has 197 [(2, _), (4, _), (5, _), (10, _), (21, _), (36, _), (130, _), (134, _), (139, _), (145, _), (152, _), (158, _), (167, _)] Az := Hz.only [2, 4, 5, 10, 21, 36, 130, 134, 139, 145, 152, 158, 167]
  refine zsr fun K40 hK40 => ?_
  refine goCh Hz (.loadBR m342 (i := 20) rfl rfl U30 rfl fct10 (by simp) (by dsimp only [List.drop, List.take] <;> rfl) .nil) ?_
  clear Hz Az; intro Az Hz
  refine wpList_plain rfl (fun K hK => ?_)
  refine e_storeW Hz m342 22 rfl rfl rfl rfl rfl fct10 ?_
  clear m342; intro w346 m346 hB346
  clear hB346
  refine hK _ _ ?_; clear hK
  refine goCh Hz (.assign rfl .nil) ?_
  clear Hz Az; intro Az Hz
  refine znl (hK40 _ _ ?_); clear hK40
  refine wp_ret ?_
  try dsimp only [Exit.then, Exit.inBlock]
  refine (retCT (fn := Tryd.f86) Hz m346 (i := 22) rfl rfl rfl rfl U30 rfl fct10 ?_)
  exact ⟨(ne + 1), hi, fl, (ws ++ [((ws.length : Int) + 1, items)]), 0, _, _, rfl, by rw [doR, if_neg (by omega), if_neg (by omega), if_pos (by omega), takeR, if_neg (by simp_all), if_neg (by omega), if_neg (by omega), show wrR bl sz ws items = ((ws ++ [((ws.length : Int) + 1, items)]), 0) from by rw [wrR, if_pos (hib.1 (by simp_all))]]; rfl, m346.ren [(1, 1), (2, 2), (3, 3), (4, 4), (7, 23)] (by decide)⟩
 clear Hz; intro hb144 Hz; try simp only [QQ, Qax] at hb144
 refine wp_cond_false (Hz.ev (x := .tmp 130) rfl) ?_
 refine regS Hz (.eql rfl rfl <| .assign rfl <| .nil) ?_
 clear Hz Az; intro Az Hz
 refine bool_cases Hz (t := 177) rfl ?_ ?_
 ·
  clear Hz; intro hb350 Hz; try simp only [QQ, Qax] at hb350
  refine wp_cond_true (Hz.ev (x := .tmp 177) rfl) ?_
  refine wp_seq_k (fun K41 hK41 => ?_)
  refine zsr fun K42 hK42 => ?_
  refine goCh Hz (.fa 7 rfl U30 <| .lb m6 20 U4 rfl rfl rfl <| .not rfl <| .move rfl <| .nil) ?_
  clear Hz Az; intro Az Hz
  refine bool_cases Hz (t := 182) rfl ?_ ?_
  ·
   clear Hz; intro hb359 Hz; try simp only [QQ, Qax] at hb359
   refine goCh Hz (.sk <| .sk <| .sk <| .sk <| .sk <| .pickT rfl rfl <| .nil) ?_
   clear Hz Az; intro Az Hz
   refine znl (hK42 _ _ ?_); clear hK42
   refine wp_cond_true (Hz.ev (x := .tmp 188) rfl) ?_
   replace Hz : Has 197 [(2, _), (4, _), (5, _), (10, _), (19, _), (21, _), (36, _), (130, _), (177, _), (182, _), (188, _)] Az := Hz.only [2, 4, 5, 10, 19, 21, 36, 130, 177, 182, 188]
   refine zsr fun K43 hK43 => ?_
   refine goCh Hz (.loadBR m6 (i := 20) rfl rfl U30 rfl fct10 (by simp) (by dsimp only [List.drop, List.take] <;> rfl) .nil) ?_
   clear Hz Az; intro Az Hz
   refine wpList_plain rfl (fun K hK => ?_)
   refine e_storeW Hz m6 22 rfl rfl rfl rfl rfl fct10 ?_
   clear m6; intro w369 m369 hB369
   clear hB369
   refine hK _ _ ?_; clear hK
   refine goCh Hz (.assign rfl .nil) ?_
   clear Hz Az; intro Az Hz
   refine znl (hK43 _ _ ?_); clear hK43
   refine wp_ret ?_
   try dsimp only [Exit.then, Exit.inBlock]
   refine (retCT (fn := Tryd.f86) Hz m369 (i := 22) rfl rfl rfl rfl U30 rfl fct10 ?_)
   have m371 := m369.dat 23 rfl (m369.rd (i := 3) rfl); clear m369
   exact ⟨ne, hi, fl, ws, 33, _, _, rfl, by rw [doR, if_neg (by omega), if_neg (by omega), if_neg (by omega), if_pos (by omega), publishR, if_pos (by first | (left; simp_all; done) | (right; assumption) | omega)], m371.ren [(1, 1), (2, 2), (3, 3), (4, 4), (7, 23)] (by decide)⟩
  clear Hz; intro hb359 Hz; try simp only [QQ, Qax] at hb359
  refine goCh Hz (.faZ 6 rfl U30 <| .loadB1Z m6 (i := 20) rfl rfl rfl U3 rfl <| .faZ 5 rfl U30 <| .loadB1Z m6 (i := 20) rfl rfl rfl U3 rfl <| .neqZ rfl rfl <| .pickF rfl rfl <| .nil) ?_
  clear Hz Az; intro Az Hz
  refine znl (hK42 _ _ ?_); clear hK42
  refine bool_cases Hz (t := 188) rfl ?_ ?_
  ·
   clear Hz; intro hb378 Hz; try simp only [QQ, Qax] at hb378
   refine wp_cond_true (Hz.ev (x := .tmp 188) rfl) ?_
   replace Hz : Has 197 [(2, _), (4, _), (5, _), (10, _), (19, _), (21, _), (36, _), (130, _), (177, _), (182, _), (188, _)] Az := Hz.only [2, 4, 5, 10, 19, 21, 36, 130, 177, 182, 188]
   refine zsr fun K44 hK44 => ?_
   refine goCh Hz (.loadBR m6 (i := 20) rfl rfl U30 rfl fct10 (by simp) (by dsimp only [List.drop, List.take] <;> rfl) .nil) ?_
   clear Hz Az; intro Az Hz
   refine wpList_plain rfl (fun K hK => ?_)
   refine e_storeW Hz m6 22 rfl rfl rfl rfl rfl fct10 ?_
   clear m6; intro w382 m382 hB382
   clear hB382
   refine hK _ _ ?_; clear hK
   refine goCh Hz (.assign rfl .nil) ?_
   clear Hz Az; intro Az Hz
   refine znl (hK44 _ _ ?_); clear hK44
   refine wp_ret ?_
   try dsimp only [Exit.then, Exit.inBlock]
   refine (retCT (fn := Tryd.f86) Hz m382 (i := 22) rfl rfl rfl rfl U30 rfl fct10 ?_)
   have m384 := m382.dat 23 rfl (m382.rd (i := 3) rfl); clear m382
   exact ⟨ne, hi, fl, ws, 33, _, _, rfl, by rw [doR, if_neg (by omega), if_neg (by omega), if_neg (by omega), if_pos (by omega), publishR, if_pos (by first | (left; simp_all; done) | (right; assumption) | omega)], m384.ren [(1, 1), (2, 2), (3, 3), (4, 4), (7, 23)] (by decide)⟩
  clear Hz; intro hb378 Hz; try simp only [QQ, Qax] at hb378
  refine wp_cond_false (Hz.ev (x := .tmp 188) rfl) ?_
  refine zss (hK41 _ _ ?_); clear hK41
  replace Hz : Has 197 [(2, _), (4, _), (5, _), (10, _), (19, _), (21, _), (36, _), (130, _), (177, _), (182, _), (188, _)] Az := Hz.only [2, 4, 5, 10, 19, 21, 36, 130, 177, 182, 188]
  refine wp_region_lit ?_
  refine goCh Hz (.loadBR m6 (i := 20) rfl rfl U30 rfl fct10 (by simp) (by dsimp only [List.drop, List.take] <;> rfl) .nil) ?_
  clear Hz Az; intro Az Hz
  refine wpList_plain rfl (fun K hK => ?_)
  refine e_call Hz Tryd.func22 rfl rfl rfl rfl (rlen_any _ _ _ _ _ _ _ _ _ _ _ _ _ _ _ _ _ _) ?_
  rintro e w387 ⟨rfl, hb387⟩
  rw [List.length_map]
  have m388 := m6.later hb387
  clear m6
  clear hb387
  refine ⟨_, rfl, ?_⟩; clear Hz Az; intro Az Hz
  refine hK _ _ ?_; clear hK
  refine goCh Hz (.fieldAddr (off := 7) rfl U30 rfl (s := 0) (by kernel_rfl) rfl .nil) ?_
  clear Hz Az; intro Az Hz
  refine wpList_plain rfl (fun K hK => ?_)
  refine e_store1 Hz m388 20 rfl rfl rfl rfl rfl fct28 (by dsimp only [List.set] <;> rfl) ?_
  clear m388; intro w391 m391 hB391
  clear hB391
  refine hK _ _ ?_; clear hK
  refine goCh Hz (.fieldAddr (off := 8) rfl U30 rfl (s := 0) (by kernel_rfl) rfl .nil) ?_
  clear Hz Az; intro Az Hz
  refine wpList_plain rfl (fun K hK => ?_)
  refine e_store1 Hz m391 20 rfl rfl rfl rfl rfl fct23 (by dsimp only [List.set] <;> rfl) ?_
  clear m391; intro w393 m393 hB393
  clear hB393
  refine hK _ _ ?_; clear hK
  refine znl (hK17 _ _ ?_); clear hK17
  refine zsr fun K45 hK45 => ?_
  refine goCh Hz (.loadBR m393 (i := 20) rfl rfl U30 rfl fct10 (by simp) (by dsimp only [List.drop, List.take] <;> rfl) .nil) ?_
  clear Hz Az; intro Az Hz
  refine wpList_plain rfl (fun K hK => ?_)
  refine e_storeW Hz m393 22 rfl rfl rfl rfl rfl fct10 ?_
  clear m393; intro w396 m396 hB396
  clear hB396
  refine hK _ _ ?_; clear hK
  refine goCh Hz (.assign rfl .nil) ?_
  clear Hz Az; intro Az Hz
  refine znl (hK45 _ _ ?_); clear hK45
  refine wp_ret ?_
  try dsimp only [Exit.then, Exit.inBlock]
  refine (retCT (fn := Tryd.f86) Hz m396 (i := 22) rfl rfl rfl rfl U30 rfl fct10 ?_)
  have m398 := m396.dat 23 rfl (m396.rd (i := 3) rfl); clear m396
  exact ⟨ne, false, ws.length, ws, 0, _, _, rfl, by rw [doR, if_neg (by omega), if_neg (by omega), if_neg (by omega), if_pos (by omega), publishR, if_neg (by rintro (h | h) <;> simp_all)], m398.ren [(1, 1), (2, 2), (3, 3), (4, 4), (7, 23)] (by decide)⟩
 clear Hz; intro hb350 Hz; try simp only [QQ, Qax] at hb350
 refine wp_cond_false (Hz.ev (x := .tmp 177) rfl) ?_
 refine regS Hz (.eql rfl rfl <| .assign rfl <| .nil) ?_
 clear Hz Az; intro Az Hz
 refine bool_cases Hz (t := 194) rfl ?_ ?_
 ·
  clear Hz; intro hb401 Hz; try simp only [QQ, Qax] at hb401
  refine wp_cond_true (Hz.ev (x := .tmp 194) rfl) ?_
  refine zss (hK17 _ _ ?_); clear hK17
  replace Hz : Has 197 [(2, _), (4, _), (5, _), (10, _), (21, _), (36, _), (130, _), (177, _), (194, _)] Az := Hz.only [2, 4, 5, 10, 21, 36, 130, 177, 194]
  refine zsr fun K46 hK46 => ?_
  refine goCh Hz (.loadBR m6 (i := 20) rfl rfl U30 rfl fct10 (by simp) (by dsimp only [List.drop, List.take] <;> rfl) .nil) ?_
  clear Hz Az; intro Az Hz
  refine wpList_plain rfl (fun K hK => ?_)
  refine e_storeW Hz m6 22 rfl rfl rfl rfl rfl fct10 ?_
  clear m6; intro w405 m405 hB405
  clear hB405
  refine hK _ _ ?_; clear hK
  refine goCh Hz (.assign rfl .nil) ?_
  clear Hz Az; intro Az Hz
  refine znl (hK46 _ _ ?_); clear hK46
  refine wp_ret ?_
  try dsimp only [Exit.then, Exit.inBlock]
  refine (retCT (fn := Tryd.f86) Hz m405 (i := 22) rfl rfl rfl rfl U30 rfl fct10 ?_)
  have m407 := m405.dat 23 rfl (m405.rd (i := 3) rfl); clear m405
  exact ⟨ne, hi, fl, ws, 0, _, _, rfl, by rw [doR, if_neg (by omega), if_neg (by omega), if_neg (by omega), if_neg (by omega), if_pos (by omega)], m407.ren [(1, 1), (2, 2), (3, 3), (4, 4), (7, 23)] (by decide)⟩
 clear Hz; intro hb401 Hz; try simp only [QQ, Qax] at hb401
 refine wp_cond_false (Hz.ev (x := .tmp 194) rfl) ?_
 replace Hz : Has 197 [(2, _), (4, _), (5, _), (10, _), (21, _), (36, _), (130, _), (177, _), (194, _)] Az := Hz.only [2, 4, 5, 10, 21, 36, 130, 177, 194]
 refine zsr fun K47 hK47 => ?_
 refine goCh Hz (.loadBR m6 (i := 20) rfl rfl U30 rfl fct10 (by simp) (by dsimp only [List.drop, List.take] <;> rfl) .nil) ?_
 clear Hz Az; intro Az Hz
 refine wpList_plain rfl (fun K hK => ?_)
 refine e_storeW Hz m6 22 rfl rfl rfl rfl rfl fct10 ?_
 clear m6; intro w411 m411 hB411
 clear hB411
 refine hK _ _ ?_; clear hK
 refine goCh Hz (.assign rfl .nil) ?_
 clear Hz Az; intro Az Hz
 refine znl (hK47 _ _ ?_); clear hK47
 refine wp_ret ?_
 try dsimp only [Exit.then, Exit.inBlock]
 refine (retCT (fn := Tryd.f86) Hz m411 (i := 22) rfl rfl rfl rfl U30 rfl fct10 ?_)
 have m413 := m411.dat 23 rfl (m411.rd (i := 3) rfl); clear m411
 exact ⟨ne, hi, fl, ws, 23, _, _, rfl, by rw [doR, if_neg (by omega), if_neg (by omega), if_neg (by omega), if_neg (by omega), if_neg (by omega)], m413.ren [(1, 1), (2, 2), (3, 3), (4, 4), (7, 23)] (by decide)⟩
theorem rdone4 (X : Cx) (vo bl sz pe to ne fl : Int) (hi : Bool) (place pins : List Int) (ws : List (Int × List (Int × List Int))) (pp pn pw : Option Addr) (cp cn9 cw : Nat) (v1 v2 v3 v4 v5 at0 v6 : Int) (q1 : Option Addr) (n1 c1 : Nat) (q2 : Option Addr) (n2 c2 : Nat) (w0 : World) (hp : pins.length ≤ 900000) (hsp : pins.Pairwise (· ≤ ·)) (m0 : MemOk X w0 [(1, .dat (.slice pp place.length cp) (.ns .i64 place)), (2, .dat (.slice pn pins.length cn9) (.ns .i64 pins)), (3, .dat (.slice pw (ws.map wrD).length cw) (.l 2 (ws.map wrD)))] w0) :
   Calls Tryd.prog 86 #[.agg #[.int .i64 vo, .int .i64 bl, .int .i64 sz, .int .i64 pe, .slice pp place.length cp, .int .i64 to, .int .i64 ne, .bool hi, .int .i64 fl, .slice pn pins.length cn9, .slice pw (ws.map wrD).length cw], .agg #[.int .i64 4, .int .i64 v1, .int .i64 v2, .int .i64 v3, .int .i64 v4, .slice q1 n1 c1, .int .i64 v5, .int .i64 at0, .int .i64 v6, .slice q2 n2 c2]] w0 fun e w' => ∃ (pins' : List Int) (e9 : Int) (p2' : Option Addr) (d2' : Nat), e = .returned (.tuple #[.agg #[.int .i64 vo, .int .i64 bl, .int .i64 sz, .int .i64 pe, .slice pp place.length cp, .int .i64 to, .int .i64 ne, .bool hi, .int .i64 fl, .slice p2' pins'.length d2', .slice pw (ws.map wrD).length cw], .int .i64 e9]) ∧ pinR hi fl at0 ws.length pins = (pins', e9) ∧ MemOk X w0 [(1, .dat (.slice pp place.length cp) (.ns .i64 place)), (2, .dat (.slice pn pins.length cn9) (.ns .i64 pins)), (3, .dat (.slice pw (ws.map wrD).length cw) (.l 2 (ws.map wrD))), (6, .dat (.slice p2' pins'.length d2') (.ns .i64 pins'))] w' := by
 refine ent2 Tryd.func86 rfl Tryd.ntmps86 fun Az Hz => ?_
 refine zsr fun K0 hK0 => ?_
 refine wpList_plain rfl (fun K hK => ?_)
 refine e_box Hz m0 20 (cs := [_, _, _, _, _, _, _, _, _, _, _]) rfl rfl rfl ?_
 clear Hz Az m0; intro g1 Az w2 Hz m2 hB2 hg2
 clear hB2 hg2
 refine hK _ _ ?_; clear hK
 refine wpList_plain rfl (fun K hK => ?_)
 refine e_box Hz m2 21 (cs := [_, _, _, _, _, _, _, _, _, _]) rfl rfl rfl ?_
 clear Hz Az m2; intro g3 Az w4 Hz m4 hB4 hg4
 clear hB4 hg4
 refine hK _ _ ?_; clear hK
 refine wpList_plain rfl (fun K hK => ?_)
 refine e_alloc Hz m4 22 fct12 rfl ?_
 clear Hz Az m4; intro g5 Az w6 Hz m6 hB6 hg6
 clear hB6 hg6
 refine hK _ _ ?_; clear hK
 refine goCh Hz (.assign rfl .nil) ?_
 clear Hz Az; intro Az Hz
 refine znl (hK0 _ _ ?_); clear hK0
 refine wp_seq_k (fun K1 hK1 => ?_)
 refine regS Hz (.fa 0 rfl U87 <| .lb m6 21 U3 rfl rfl rfl <| .nil) ?_
 clear Hz Az; intro Az Hz
 refine wp_block ?_
 refine wp_seq_k (fun K2 hK2 => ?_)
 refine regS Hz (.eql rfl rfl <| .assign rfl <| .nil) ?_
 clear Hz Az; intro Az Hz
 refine bool_cases Hz (t := 10) rfl ?_ ?_
 · intro hb _; exact absurd hb (by simp)
 clear Hz; intro _ Hz
 refine wp_cond_false (Hz.ev (x := .tmp 10) rfl) ?_
 refine regS Hz (.eql rfl rfl <| .assign rfl <| .nil) ?_
 clear Hz Az; intro Az Hz
 refine bool_cases Hz (t := 10) rfl ?_ ?_
 · intro hb _; exact absurd hb (by simp)
 clear Hz; intro _ Hz
 refine wp_cond_false (Hz.ev (x := .tmp 10) rfl) ?_
 refine regS Hz (.eql rfl rfl <| .assign rfl <| .nil) ?_
 clear Hz Az; intro Az Hz
 refine bool_cases Hz (t := 10) rfl ?_ ?_
 rotate_left
 · intro hb _; exact absurd hb (by simp)
 clear Hz; intro _ Hz
 refine wp_cond_true (Hz.ev (x := .tmp 10) rfl) ?_
 refine zss (hK2 _ _ ?_); clear hK2
 refine wp_cond_true (Hz.ev (x := .tmp 10) rfl) ?_
 replace Hz : Has 197 [(2, _), (3, _), (4, _), (5, _)] Az := Hz.only [2, 3, 4, 5]
 refine regS Hz (.fa 7 rfl U30 <| .lb m6 20 U4 rfl rfl rfl <| .nil) ?_
 clear Hz Az; intro Az Hz
 refine bool_cases Hz (t := 16) rfl ?_ ?_
 ·
  clear Hz; intro hb22 Hz; try simp only [QQ, Qax] at hb22
  refine wp_cond_true (Hz.ev (x := .tmp 16) rfl) ?_
  refine zsr fun K3 hK3 => ?_
  refine goCh Hz (.loadBR m6 (i := 20) rfl rfl U30 rfl fct10 (by simp) (by dsimp only [List.drop, List.take] <;> rfl) .nil) ?_
  clear Hz Az; intro Az Hz
  refine wpList_plain rfl (fun K hK => ?_)
  refine e_storeW Hz m6 22 rfl rfl rfl rfl rfl fct10 ?_
  clear m6; intro w25 m25 hB25
  clear hB25
  refine hK _ _ ?_; clear hK
  refine goCh Hz (.assign rfl .nil) ?_
  clear Hz Az; intro Az Hz
  refine znl (hK3 _ _ ?_); clear hK3
  refine wp_ret ?_
  try dsimp only [Exit.then, Exit.inBlock]
  refine (retCT (fn := Tryd.f86) Hz m25 (i := 22) rfl rfl rfl rfl U30 rfl fct10 ?_)
  have m27 := m25.dat 23 rfl (m25.rd (i := 2) rfl); clear m25
  exact ⟨pins, 28, _, _, rfl, by rw [pinR, show reachR hi fl at0 ws.length = 28 from by rw [reachR, if_pos (by assumption)]]; rfl, m27.ren [(1, 1), (2, 2), (3, 3), (6, 23)] (by decide)⟩
 clear Hz; intro hb22 Hz; try simp only [QQ, Qax] at hb22
 refine wp_cond_false (Hz.ev (x := .tmp 16) rfl) ?_
 refine zss (hK1 _ _ ?_); clear hK1
 refine wp_seq_k (fun K4 hK4 => ?_)
 refine regS Hz (.fa 0 rfl U87 <| .lb m6 21 U3 rfl rfl rfl <| .nil) ?_
 clear Hz Az; intro Az Hz
 refine wp_block ?_
 refine regS Hz (.eql rfl rfl <| .assign rfl <| .nil) ?_
 clear Hz Az; intro Az Hz
 refine bool_cases Hz (t := 21) rfl ?_ ?_
 · intro hb _; exact absurd hb (by simp)
 clear Hz; intro _ Hz
 refine wp_cond_false (Hz.ev (x := .tmp 21) rfl) ?_
 refine regS Hz (.eql rfl rfl <| .assign rfl <| .nil) ?_
 clear Hz Az; intro Az Hz
 refine bool_cases Hz (t := 36) rfl ?_ ?_
 · intro hb _; exact absurd hb (by simp)
 clear Hz; intro _ Hz
 refine wp_cond_false (Hz.ev (x := .tmp 36) rfl) ?_
 replace Hz : Has 197 [(2, _), (3, _), (4, _), (5, _), (16, _), (19, _)] Az := Hz.only [2, 3, 4, 5, 16, 19]
 refine regS Hz (.eql rfl rfl <| .assign rfl <| .nil) ?_
 clear Hz Az; intro Az Hz
 refine bool_cases Hz (t := 53) rfl ?_ ?_
 rotate_left
 · intro hb _; exact absurd hb (by simp)
 clear Hz; intro _ Hz
 refine wp_cond_true (Hz.ev (x := .tmp 53) rfl) ?_
 refine wp_seq_k (fun K5 hK5 => ?_)
 refine regS Hz (.fa 7 rfl U87 <| .lb m6 21 U2 rfl rfl rfl <| .fa 8 rfl U30 <| .lb m6 20 U2 rfl rfl rfl <| .lss rfl rfl <| .nil) ?_
 clear Hz Az; intro Az Hz
 refine bool_cases Hz (t := 59) rfl ?_ ?_
 ·
  clear Hz; intro hb45 Hz; try simp only [QQ, Qax] at hb45
  refine wp_cond_true (Hz.ev (x := .tmp 59) rfl) ?_
  replace Hz : Has 197 [(2, _), (3, _), (4, _), (5, _), (16, _), (19, _), (59, _)] Az := Hz.only [2, 3, 4, 5, 16, 19, 59]
  refine zsr fun K6 hK6 => ?_
  refine goCh Hz (.loadBR m6 (i := 20) rfl rfl U30 rfl fct10 (by simp) (by dsimp only [List.drop, List.take] <;> rfl) .nil) ?_
  clear Hz Az; intro Az Hz
  refine wpList_plain rfl (fun K hK => ?_)
  refine e_storeW Hz m6 22 rfl rfl rfl rfl rfl fct10 ?_
  clear m6; intro w49 m49 hB49
  clear hB49
  refine hK _ _ ?_; clear hK
  refine goCh Hz (.assign rfl .nil) ?_
  clear Hz Az; intro Az Hz
  refine znl (hK6 _ _ ?_); clear hK6
  refine wp_ret ?_
  try dsimp only [Exit.then, Exit.inBlock]
  refine (retCT (fn := Tryd.f86) Hz m49 (i := 22) rfl rfl rfl rfl U30 rfl fct10 ?_)
  have m51 := m49.dat 23 rfl (m49.rd (i := 2) rfl); clear m49
  exact ⟨pins, 30, _, _, rfl, by rw [pinR, show reachR hi fl at0 ws.length = 30 from by rw [reachR, if_neg (by simp_all), if_pos (by omega)]]; rfl, m51.ren [(1, 1), (2, 2), (3, 3), (6, 23)] (by decide)⟩
 clear Hz; intro hb45 Hz; try simp only [QQ, Qax] at hb45
 refine wp_cond_false (Hz.ev (x := .tmp 59) rfl) ?_
 refine zss (hK5 _ _ ?_); clear hK5
 refine wp_seq_k (fun K7 hK7 => ?_)
 refine wp_seq_k (fun K8 hK8 => ?_)
 replace Hz : Has 197 [(2, _), (3, _), (4, _), (5, _), (16, _), (19, _), (59, _)] Az := Hz.only [2, 3, 4, 5, 16, 19, 59]
 have m53 : MemOk _ _ [(1, _), (2, _), (3, _), (20, _), (21, _), (22, _)] _ := m6.only [1, 2, 3, 20, 21, 22]; clear m6
 refine region_p 5 (B := [(1, _), (2, _), (3, _), (20, _), (21, _), (22, _)]) (m53.to ⟨il, il, il, il, il, il, trivial⟩) m53 (by kernel_rfl) (fun w54 hP54 m54 => ?_); clear m53
 refine goR hP54 [0, 1, 2] [1, 2] 3 0 7 Hz (m54.to ⟨il, il, il, il, il, il, trivial⟩) (.fa 7 rfl U87 <| .lb hh 21 U2 rfl rfl rfl <| .loadBR hh (i := 20) rfl rfl U30 rfl fct10 (by simp) (by dsimp only [List.drop, List.take] <;> rfl) <| .nil) ?_
 clear Hz Az; intro Az Hz
 refine stepE_only 3 rfl (by kernel_rfl) rfl (fun K hK => ?_)
 refine e_call Hz Tryd.func22 rfl rfl rfl rfl (rlen_any _ _ _ _ _ _ _ _ _ _ _ _ _ _ _ _ _ _) ?_
 rintro e w58 ⟨rfl, hb58⟩
 rw [List.length_map]
 have m59 := m54.later hb58
 clear m54
 clear hb58
 refine ⟨_, rfl, ?_⟩; clear Hz Az; intro Az Hz
 refine hK _ _ (m59.to ⟨il, il, il, il, il, il, trivial⟩) ?_; clear hK K
 refine goA hP54 [4] 1 15 31 Hz (m59.to ⟨il, il, il, il, il, il, trivial⟩) (.gtr rfl rfl <| .nil) ?_
 clear Hz Az; intro Az Hz
 refine wpAnyE_done (by kernel_rfl) ?_ _
 refine hK8 _ _ ?_; clear hK8
 refine bool_cases Hz (t := 65) rfl ?_ ?_
 ·
  clear Hz; intro hb62 Hz; try simp only [QQ, Qax] at hb62
  refine wp_cond_true (Hz.ev (x := .tmp 65) rfl) ?_
  refine zsr fun K9 hK9 => ?_
  refine goCh Hz (.loadBR m59 (i := 20) rfl rfl U30 rfl fct10 (by simp) (by dsimp only [List.drop, List.take] <;> rfl) .nil) ?_
  clear Hz Az; intro Az Hz
  refine wpList_plain rfl (fun K hK => ?_)
  refine e_storeW Hz m59 22 rfl rfl rfl rfl rfl fct10 ?_
  clear m59; intro w65 m65 hB65
  clear hB65
  refine hK _ _ ?_; clear hK
  refine goCh Hz (.assign rfl .nil) ?_
  clear Hz Az; intro Az Hz
  refine znl (hK9 _ _ ?_); clear hK9
  refine wp_ret ?_
  try dsimp only [Exit.then, Exit.inBlock]
  refine (retCT (fn := Tryd.f86) Hz m65 (i := 22) rfl rfl rfl rfl U30 rfl fct10 ?_)
  have m67 := m65.dat 23 rfl (m65.rd (i := 2) rfl); clear m65
  exact ⟨pins, 31, _, _, rfl, by rw [pinR, show reachR hi fl at0 ws.length = 31 from by rw [reachR, if_neg (by simp_all), if_neg (by omega), if_pos (by omega)]]; rfl, m67.ren [(1, 1), (2, 2), (3, 3), (6, 23)] (by decide)⟩
 clear Hz; intro hb62 Hz; try simp only [QQ, Qax] at hb62
 refine wp_cond_false (Hz.ev (x := .tmp 65) rfl) ?_
 refine zss (hK7 _ _ ?_); clear hK7
 refine regS Hz (.assign rfl <| .nil) ?_
 clear Hz Az; intro Az Hz
 refine wp_seq_k (fun K10 hK10 => ?_)
 refine wp_block ?_
 refine wp_loop_ghost (fun g a w => ∃ (k B8 B9 B10 : Nat), k ≤ pins.length ∧ g = pins.length - k ∧ (∀ j, j < k → pins.getD j 0 ≤ at0) ∧ Has 197 [(2, .pointer (some ⟨B8, 0, none⟩)), (3, .pointer (some ⟨B9, 0, none⟩)), (4, .pointer (some ⟨B10, 0, none⟩)), (6, .int .i64 k)] a ∧ MemOk X w0 [(1, .dat (.slice pp place.length cp) (.ns .i64 place)), (2, .dat (.slice pn pins.length cn9) (.ns .i64 pins)), (3, .dat (.slice pw (ws.map wrD).length cw) (.l 2 (ws.map wrD))), (8, .box B8 30 [.int .i64 vo, .int .i64 bl, .int .i64 sz, .int .i64 pe, .slice pp place.length cp, .int .i64 to, .int .i64 ne, .bool hi, .int .i64 fl, .slice pn pins.length cn9, .slice pw (ws.map wrD).length cw]), (9, .box B9 87 [.int .i64 4, .int .i64 v1, .int .i64 v2, .int .i64 v3, .int .i64 v4, .slice q1 n1 c1, .int .i64 v5, .int .i64 at0, .int .i64 v6, .slice q2 n2 c2]), (10, .box B10 30 [.int .i64 0, .int .i64 0, .int .i64 0, .int .i64 0, .slice none 0 0, .int .i64 0, .int .i64 0, .bool false, .int .i64 0, .slice none 0 0, .slice none 0 0])] w) (pins.length) ?_ ?_
 · exact ⟨0, _, _, _, Nat.zero_le _, rfl, (fun j hj => by omega), Hz.only [2, 3, 4, 6], m59.ren [(1, 1), (2, 2), (3, 3), (8, 20), (9, 21), (10, 22)] (by decide)⟩
 clear Hz m59
 rintro g Az w69 ⟨k, B8, B9, B10, hkl, hg, hall, Hz, m69⟩
 refine wp_seq_k (fun K11 hK11 => ?_)
 refine wp_seq_k (fun K12 hK12 => ?_)
 by_cases hk : k < pins.length
 ·
  obtain ⟨b70, o70, hp70, m70⟩ := m69.openN (i := 2) rfl (k) hk 100 rfl
  cases hp70; clear m69
  have m71 : MemOk _ _ [(1, _), (2, _), (3, _), (8, _), (9, _), (10, _), (100, _)] _ := m70.only [1, 2, 3, 8, 9, 10, 100]; clear m70
  refine region_p 15 (B := [(1, _), (2, _), (3, _), (8, _), (9, _), (10, _), (100, _)]) (m71.to ⟨il, il, il, il, il, il, il, trivial⟩) m71 (by kernel_rfl) (fun w72 hP72 m72 => ?_); clear m71
  refine goR hP72 [0, 1, 2, 3, 4, 5] [2] 6 0 63 Hz (m72.to ⟨il, il, il, il, il, il, il, trivial⟩) (.move rfl <| .fa 9 rfl U30 <| .lb hh 8 U27 rfl rfl rfl <| .len rfl U27 <| .lss rfl rfl <| .move rfl <| .nil) ?_
  clear Hz Az; intro Az Hz
  refine bool_cases Hz (t := 72) rfl ?_ ?_
  rotate_left
  · intro hb _; exact absurd hb (by simp; omega)
  clear Hz; intro _ Hz
  refine goR hP72 [6, 7, 8, 9, 10, 11, 12, 13, 14] [7, 10, 12] 9 63 32767 Hz (m72.to ⟨il, il, il, il, il, il, il, trivial⟩) (.fa 9 rfl U30 <| .lb hh 8 U27 rfl rfl rfl <| .move rfl <| .p (fun _ _ h => y_idx h rfl rfl U27 fct23 (k) rfl hk) <| .loadC0 hh (i := 100) rfl rfl U2 rfl <| .fa 7 rfl U87 <| .lb hh 9 U2 rfl rfl rfl <| .leq rfl rfl <| .pickT rfl rfl <| .nil) ?_
  clear Hz Az; intro Az Hz
  refine wpAnyE_done (by kernel_rfl) ?_ _
  refine hK12 _ _ ?_; clear hK12
  refine bool_cases Hz (t := 81) rfl ?_ ?_
  ·
   clear Hz; intro hb89 Hz; try simp only [QQ, Qax] at hb89
   refine wp_cond_true (Hz.ev (x := .tmp 81) rfl) ?_
   refine zss (hK11 _ _ ?_); clear hK11
   refine wp_block ?_
   replace Hz : Has 197 [(2, _), (3, _), (4, _), (6, _), (72, _), (81, _)] Az := Hz.only [2, 3, 4, 6, 72, 81]
   refine wp_region_lit ?_
   refine goCh Hz (.move rfl <| .add rfl rfl (r := ((k + 1 : Nat) : Int)) (by rw [IntWalk.i64_in _ (by omega)]; omega) <| .assign rfl <| .nil) ?_
   clear Hz Az; intro Az Hz
   refine wpList_nil ?_
   show ∃ n', n' < _ ∧ _
   exact ⟨pins.length - (k + 1), by omega, k + 1, _, _, _, by omega, rfl, le_snoc hall (by omega), Hz.only [2, 3, 4, 6], m72.only [1, 2, 3, 8, 9, 10]⟩
  clear Hz; intro hb89 Hz; try simp only [QQ, Qax] at hb89
  refine wp_cond_false (Hz.ev (x := .tmp 81) rfl) ?_
  refine wp_exit ?_
  refine hK10 _ _ ?_; clear hK10
  replace Hz : Has 197 [(2, _), (3, _), (4, _), (6, _), (72, _), (81, _)] Az := Hz.only [2, 3, 4, 6, 72, 81]
  have m95 : MemOk _ _ [(1, _), (2, _), (3, _), (8, _), (9, _), (10, _), (100, _)] _ := m72.only [1, 2, 3, 8, 9, 10, 100]; clear m72
  refine region_p 15 (B := [(1, _), (2, _), (3, _), (8, _), (9, _), (10, _), (100, _)]) (m95.to ⟨il, il, il, il, il, il, il, trivial⟩) m95 (by kernel_rfl) (fun w96 hP96 m96 => ?_); clear m95
  refine goR hP96 [0, 1, 2] [1] 3 0 7 Hz (m96.to ⟨il, il, il, il, il, il, il, trivial⟩) (.fa 9 rfl U30 <| .lb hh 8 U27 rfl rfl rfl <| .move rfl <| .nil) ?_
  clear Hz Az; intro Az Hz
  have hcap100 := (m96.rd (i := 2) rfl).ns_out.cap
  have m100 := m96.takeN (i := 2) rfl (k) hkl 101 rfl; clear m96
  refine goR hP96 [3, 5, 6, 9, 10, 11] [6, 10] 6 7 3695 Hz (m100.to ⟨il, il, il, il, il, il, il, trivial⟩) (.p (fun _ _ h => y_sliceHn h (k) rfl rfl U27 fct23 rfl (Nat.le_trans hkl hcap100.1)) <| .fa 7 rfl U87 <| .lb hh 9 U2 rfl rfl rfl <| .fa 9 rfl U30 <| .lb hh 8 U27 rfl rfl rfl <| .move rfl <| .nil) ?_
  clear Hz Az; intro Az Hz
  have m107 := m100.dropN (i := 2) rfl (k) hkl 102 rfl; clear m100
  refine goA hP96 [12] 1 3695 7791 Hz (m107.to ⟨il, il, il, il, il, il, il, trivial⟩) (.p (fun _ _ h => y_sliceLn h (k) rfl rfl U27 fct23 rfl hkl) <| .nil) ?_
  clear Hz Az; intro Az Hz
  refine d_two 4 7 rfl rfl (by kernel_rfl) rfl rfl (fun K hK => ?_) (fun K hK => ?_)
  ·
   refine e_app0N Hz m107 103 rfl rfl (m107.nums (i := 101) rfl) U27 fct22 (by decide) (by simp; omega) rfl ?_
   clear Hz Az m107; intro p109 c109 Az w110 Hz m110
   refine hK _ _ (fun _ => (m110.to ⟨il, il, il, il, il, il, il, trivial⟩)) ?_; clear hK K
   refine stepE_only 7 rfl (by kernel_rfl) rfl (fun K hK => ?_)
   refine e_litN Hz m110 104 (k := .i64) rfl rfl U27 fct22 rfl rfl rfl rfl ?_
   clear Hz Az m110; intro g111 Az w112 Hz m112
   refine hK _ _ (m112.to ⟨il, il, il, il, il, il, il, trivial⟩) ?_; clear hK K
   refine stepE_only 8 rfl (by kernel_rfl) rfl (fun K hK => ?_)
   refine e_appN Hz m112 103 rfl rfl rfl (m112.numsO (i := 104) rfl) U27 fct22 (by decide) (by simp; omega) rfl ?_
   clear Hz Az m112; intro p113 c113 Az w114 Hz m114
   refine hK _ _ (m114.to ⟨il, il, il, il, il, il, il, trivial⟩) ?_; clear hK K
   refine stepE_only 13 rfl (by kernel_rfl) rfl (fun K hK => ?_)
   refine e_appN Hz m114 103 rfl rfl rfl (m114.nums (i := 102) rfl) U27 fct22 (by decide) (by simp; omega) rfl ?_
   clear Hz Az m114; intro p115 c115 Az w116 Hz m116
   refine hK _ _ (m116.to ⟨il, il, il, il, il, il, il, trivial⟩) ?_; clear hK K
   refine goA hP96 [14] 1 16383 32767 Hz (m116.to ⟨il, il, il, il, il, il, il, trivial⟩) (.fa 9 rfl U30 <| .nil) ?_
   clear Hz Az; intro Az Hz
   refine stepE_end 15 rfl (by kernel_rfl) rfl (by rfl) (fun K hK => ?_)
   refine e_store1 Hz m116 8 rfl rfl rfl rfl rfl fct29 (by dsimp only [List.set] <;> rfl) ?_
   clear m116; intro w118 m118 hB118
   clear hB118
   refine hK _ _ ?_; clear hK
   refine wpAnyE_done (by kernel_rfl) ?_ _
   refine hK4 _ _ ?_; clear hK4
   replace Hz : Has 197 [(2, _), (3, _), (4, _), (6, _), (72, _), (81, _)] Az := Hz.only [2, 3, 4, 6, 72, 81]
   refine zsr fun K13 hK13 => ?_
   refine goCh Hz (.loadBR m118 (i := 8) rfl rfl U30 rfl fct10 (by simp) (by dsimp only [List.drop, List.take] <;> rfl) .nil) ?_
   clear Hz Az; intro Az Hz
   refine wpList_plain rfl (fun K hK => ?_)
   refine e_storeW Hz m118 10 rfl rfl rfl rfl rfl fct10 ?_
   clear m118; intro w122 m122 hB122
   clear hB122
   refine hK _ _ ?_; clear hK
   refine goCh Hz (.assign rfl .nil) ?_
   clear Hz Az; intro Az Hz
   refine znl (hK13 _ _ ?_); clear hK13
   refine wp_ret ?_
   try dsimp only [Exit.then, Exit.inBlock]
   refine (retCT (fn := Tryd.f86) Hz m122 (i := 10) rfl rfl rfl rfl U30 rfl fct10 ?_)
   have m124 := m122.freezeN 103 rfl; clear m122
   have hS := pin_sorted (k := k) hsp hall (by omega) (by omega)
   rw [hS] at m124 ⊢
   exact ⟨sortP (pins ++ [at0]), 0, _, _, rfl, by rw [pinR, show reachR hi fl at0 ws.length = 0 from by rw [reachR, if_neg (by simp_all), if_neg (by omega), if_neg (by omega)]]; rfl, m124.ren [(1, 1), (2, 2), (3, 3), (6, 103)] (by decide)⟩
  refine e_litN Hz m107 103 (k := .i64) rfl rfl U27 fct22 rfl rfl rfl rfl ?_
  clear Hz Az m107; intro g125 Az w126 Hz m126
  refine hK _ _ (fun _ => (m126.to ⟨il, il, il, il, il, il, il, trivial⟩)) ?_; clear hK K
  refine stepE_only 4 rfl (by kernel_rfl) rfl (fun K hK => ?_)
  refine e_app0N Hz m126 104 rfl rfl (m126.nums (i := 101) rfl) U27 fct22 (by decide) (by simp; omega) rfl ?_
  clear Hz Az m126; intro p127 c127 Az w128 Hz m128
  refine hK _ _ (m128.to ⟨il, il, il, il, il, il, il, trivial⟩) ?_; clear hK K
  refine stepE_only 8 rfl (by kernel_rfl) rfl (fun K hK => ?_)
  refine e_appN Hz m128 104 rfl rfl rfl (m128.numsO (i := 103) rfl) U27 fct22 (by decide) (by simp; omega) rfl ?_
  clear Hz Az m128; intro p129 c129 Az w130 Hz m130
  refine hK _ _ (m130.to ⟨il, il, il, il, il, il, il, trivial⟩) ?_; clear hK K
  refine stepE_only 13 rfl (by kernel_rfl) rfl (fun K hK => ?_)
  refine e_appN Hz m130 104 rfl rfl rfl (m130.nums (i := 102) rfl) U27 fct22 (by decide) (by simp; omega) rfl ?_
  clear Hz Az m130; intro p131 c131 Az w132 Hz m132
  refine hK _ _ (m132.to ⟨il, il, il, il, il, il, il, trivial⟩) ?_; clear hK K
  refine goA hP96 [14] 1 16383 32767 Hz (m132.to ⟨il, il, il, il, il, il, il, trivial⟩) (.fa 9 rfl U30 <| .nil) ?_
  clear Hz Az; intro Az Hz
  refine stepE_end 15 rfl (by kernel_rfl) rfl (by rfl) (fun K hK => ?_)
  refine e_store1 Hz m132 8 rfl rfl rfl rfl rfl fct29 (by dsimp only [List.set] <;> rfl) ?_
  clear m132; intro w134 m134 hB134
  clear hB134
  refine hK _ _ ?_; clear hK
  refine wpAnyE_done (by kernel_rfl) ?_ _
  refine hK4 _ _ ?_; clear hK4
  replace Hz : Has 197 [(2, _), (3, _), (4, _), (6, _), (72, _), (81, _)] Az := Hz.only [2, 3, 4, 6, 72, 81]
  refine zsr fun K14 hK14 => ?_
  refine goCh Hz (.loadBR m134 (i := 8) rfl rfl U30 rfl fct10 (by simp) (by dsimp only [List.drop, List.take] <;> rfl) .nil) ?_
  clear Hz Az; intro Az Hz
  refine wpList_plain rfl (fun K hK => ?_)
  refine e_storeW Hz m134 10 rfl rfl rfl rfl rfl fct10 ?_
  clear m134; intro w138 m138 hB138
  clear hB138
  refine hK _ _ ?_; clear hK
  refine goCh Hz (.assign rfl .nil) ?_
  clear Hz Az; intro Az Hz
  refine znl (hK14 _ _ ?_); clear hK14
  refine wp_ret ?_
  try dsimp only [Exit.then, Exit.inBlock]
  refine (retCT (fn := Tryd.f86) Hz m138 (i := 10) rfl rfl rfl rfl U30 rfl fct10 ?_)
  have m140 := m138.freezeN 104 rfl; clear m138
  have hS := pin_sorted (k := k) hsp hall (by omega) (by omega)
  rw [hS] at m140 ⊢
  exact ⟨sortP (pins ++ [at0]), 0, _, _, rfl, by rw [pinR, show reachR hi fl at0 ws.length = 0 from by rw [reachR, if_neg (by simp_all), if_neg (by omega), if_neg (by omega)]]; rfl, m140.ren [(1, 1), (2, 2), (3, 3), (6, 104)] (by decide)⟩
 have hk9 : k = pins.length := by omega
 have m141 : MemOk _ _ [(1, _), (2, _), (3, _), (8, _), (9, _), (10, _)] _ := m69.only [1, 2, 3, 8, 9, 10]; clear m69
 refine region_p 15 (B := [(1, _), (2, _), (3, _), (8, _), (9, _), (10, _)]) (m141.to ⟨il, il, il, il, il, il, trivial⟩) m141 (by kernel_rfl) (fun w142 hP142 m142 => ?_); clear m141
 refine goR hP142 [0, 1, 2, 3, 4, 5] [2] 6 0 63 Hz (m142.to ⟨il, il, il, il, il, il, trivial⟩) (.move rfl <| .fa 9 rfl U30 <| .lb hh 8 U27 rfl rfl rfl <| .len rfl U27 <| .lss rfl rfl <| .move rfl <| .nil) ?_
 clear Hz Az; intro Az Hz
 refine bool_cases Hz (t := 72) rfl ?_ ?_
 · intro hb _; exact absurd hb (by simp; omega)
 clear Hz; intro _ Hz
 refine goA hP142 [6, 7, 8, 9, 10, 11, 12, 13, 14] 9 63 32767 Hz (m142.to ⟨il, il, il, il, il, il, trivial⟩) (.s <| .s <| .s <| .s <| .s <| .s <| .s <| .s <| .pickF rfl rfl <| .nil) ?_
 clear Hz Az; intro Az Hz
 refine wpAnyE_done (by kernel_rfl) ?_ _
 refine hK12 _ _ ?_; clear hK12
 refine wp_cond_false (Hz.ev (x := .tmp 81) rfl) ?_
 refine wp_exit ?_
 refine hK10 _ _ ?_; clear hK10
 replace Hz : Has 197 [(2, _), (3, _), (4, _), (6, _), (72, _), (81, _)] Az := Hz.only [2, 3, 4, 6, 72, 81]
 have m160 : MemOk _ _ [(1, _), (2, _), (3, _), (8, _), (9, _), (10, _)] _ := m142.only [1, 2, 3, 8, 9, 10]; clear m142
 refine region_p 15 (B := [(1, _), (2, _), (3, _), (8, _), (9, _), (10, _)]) (m160.to ⟨il, il, il, il, il, il, trivial⟩) m160 (by kernel_rfl) (fun w161 hP161 m161 => ?_); clear m160
 refine goR hP161 [0, 1, 2] [1] 3 0 7 Hz (m161.to ⟨il, il, il, il, il, il, trivial⟩) (.fa 9 rfl U30 <| .lb hh 8 U27 rfl rfl rfl <| .move rfl <| .nil) ?_
 clear Hz Az; intro Az Hz
 have hcap165 := (m161.rd (i := 2) rfl).ns_out.cap
 have m165 := m161.takeN (i := 2) rfl (k) hkl 100 rfl; clear m161
 refine goR hP161 [3, 5, 6, 9, 10, 11] [6, 10] 6 7 3695 Hz (m165.to ⟨il, il, il, il, il, il, trivial⟩) (.p (fun _ _ h => y_sliceHn h (k) rfl rfl U27 fct23 rfl (Nat.le_trans hkl hcap165.1)) <| .fa 7 rfl U87 <| .lb hh 9 U2 rfl rfl rfl <| .fa 9 rfl U30 <| .lb hh 8 U27 rfl rfl rfl <| .move rfl <| .nil) ?_
 clear Hz Az; intro Az Hz
 have m172 := m165.dropN (i := 2) rfl (k) hkl 101 rfl; clear m165
 refine goA hP161 [12] 1 3695 7791 Hz (m172.to ⟨il, il, il, il, il, il, trivial⟩) (.p (fun _ _ h => y_sliceLn h (k) rfl rfl U27 fct23 rfl hkl) <| .nil) ?_
 clear Hz Az; intro Az Hz
 refine d_two 4 7 rfl rfl (by kernel_rfl) rfl rfl (fun K hK => ?_) (fun K hK => ?_)
 ·
  refine e_app0N Hz m172 102 rfl rfl (m172.nums (i := 100) rfl) U27 fct22 (by decide) (by simp; omega) rfl ?_
  clear Hz Az m172; intro p174 c174 Az w175 Hz m175
  refine hK _ _ (fun _ => (m175.to ⟨il, il, il, il, il, il, trivial⟩)) ?_; clear hK K
  refine stepE_only 7 rfl (by kernel_rfl) rfl (fun K hK => ?_)
  refine e_litN Hz m175 103 (k := .i64) rfl rfl U27 fct22 rfl rfl rfl rfl ?_
  clear Hz Az m175; intro g176 Az w177 Hz m177
  refine hK _ _ (m177.to ⟨il, il, il, il, il, il, trivial⟩) ?_; clear hK K
  refine stepE_only 8 rfl (by kernel_rfl) rfl (fun K hK => ?_)
  refine e_appN Hz m177 102 rfl rfl rfl (m177.numsO (i := 103) rfl) U27 fct22 (by decide) (by simp; omega) rfl ?_
  clear Hz Az m177; intro p178 c178 Az w179 Hz m179
  refine hK _ _ (m179.to ⟨il, il, il, il, il, il, trivial⟩) ?_; clear hK K
  refine stepE_only 13 rfl (by kernel_rfl) rfl (fun K hK => ?_)
  refine e_appN Hz m179 102 rfl rfl rfl (m179.nums (i := 101) rfl) U27 fct22 (by decide) (by simp; omega) rfl ?_
  clear Hz Az m179; intro p180 c180 Az w181 Hz m181
  refine hK _ _ (m181.to ⟨il, il, il, il, il, il, trivial⟩) ?_; clear hK K
  refine goA hP161 [14] 1 16383 32767 Hz (m181.to ⟨il, il, il, il, il, il, trivial⟩) (.fa 9 rfl U30 <| .nil) ?_
  clear Hz Az; intro Az Hz
  refine stepE_end 15 rfl (by kernel_rfl) rfl (by rfl) (fun K hK => ?_)
  refine e_store1 Hz m181 8 rfl rfl rfl rfl rfl fct29 (by dsimp only [List.set] <;> rfl) ?_
  clear m181; intro w183 m183 hB183
  clear hB183
  refine hK _ _ ?_; clear hK
  refine wpAnyE_done (by kernel_rfl) ?_ _
  refine hK4 _ _ ?_; clear hK4
  replace Hz : Has 197 [(2, _), (3, _), (4, _), (6, _), (72, _), (81, _)] Az := Hz.only [2, 3, 4, 6, 72, 81]
  refine zsr fun K15 hK15 => ?_
  refine goCh Hz (.loadBR m183 (i := 8) rfl rfl U30 rfl fct10 (by simp) (by dsimp only [List.drop, List.take] <;> rfl) .nil) ?_
  clear Hz Az; intro Az Hz
  refine wpList_plain rfl (fun K hK => ?_)
  refine e_storeW Hz m183 10 rfl rfl rfl rfl rfl fct10 ?_
  clear m183; intro w187 m187 hB187
  clear hB187
  refine hK _ _ ?_; clear hK
  refine goCh Hz (.assign rfl .nil) ?_
  clear Hz Az; intro Az Hz
  refine znl (hK15 _ _ ?_); clear hK15
  refine wp_ret ?_
  try dsimp only [Exit.then, Exit.inBlock]
  refine (retCT (fn := Tryd.f86) Hz m187 (i := 10) rfl rfl rfl rfl U30 rfl fct10 ?_)
  have m189 := m187.freezeN 102 rfl; clear m187
  have hS := pin_sorted (k := k) hsp hall (by omega) (by omega)
  rw [hS] at m189 ⊢
  exact ⟨sortP (pins ++ [at0]), 0, _, _, rfl, by rw [pinR, show reachR hi fl at0 ws.length = 0 from by rw [reachR, if_neg (by simp_all), if_neg (by omega), if_neg (by omega)]]; rfl, m189.ren [(1, 1), (2, 2), (3, 3), (6, 102)] (by decide)⟩
 refine e_litN Hz m172 102 (k := .i64) rfl rfl U27 fct22 rfl rfl rfl rfl ?_
 clear Hz Az m172; intro g190 Az w191 Hz m191
 refine hK _ _ (fun _ => (m191.to ⟨il, il, il, il, il, il, trivial⟩)) ?_; clear hK K
 refine stepE_only 4 rfl (by kernel_rfl) rfl (fun K hK => ?_)
 refine e_app0N Hz m191 103 rfl rfl (m191.nums (i := 100) rfl) U27 fct22 (by decide) (by simp; omega) rfl ?_
 clear Hz Az m191; intro p192 c192 Az w193 Hz m193
 refine hK _ _ (m193.to ⟨il, il, il, il, il, il, trivial⟩) ?_; clear hK K
 refine stepE_only 8 rfl (by kernel_rfl) rfl (fun K hK => ?_)
 refine e_appN Hz m193 103 rfl rfl rfl (m193.numsO (i := 102) rfl) U27 fct22 (by decide) (by simp; omega) rfl ?_
 clear Hz Az m193; intro p194 c194 Az w195 Hz m195
 refine hK _ _ (m195.to ⟨il, il, il, il, il, il, trivial⟩) ?_; clear hK K
 refine stepE_only 13 rfl (by kernel_rfl) rfl (fun K hK => ?_)
 refine e_appN Hz m195 103 rfl rfl rfl (m195.nums (i := 101) rfl) U27 fct22 (by decide) (by simp; omega) rfl ?_
 clear Hz Az m195; intro p196 c196 Az w197 Hz m197
 refine hK _ _ (m197.to ⟨il, il, il, il, il, il, trivial⟩) ?_; clear hK K
 refine goA hP161 [14] 1 16383 32767 Hz (m197.to ⟨il, il, il, il, il, il, trivial⟩) (.fa 9 rfl U30 <| .nil) ?_
 clear Hz Az; intro Az Hz
 refine stepE_end 15 rfl (by kernel_rfl) rfl (by rfl) (fun K hK => ?_)
 refine e_store1 Hz m197 8 rfl rfl rfl rfl rfl fct29 (by dsimp only [List.set] <;> rfl) ?_
 clear m197; intro w199 m199 hB199
 clear hB199
 refine hK _ _ ?_; clear hK
 refine wpAnyE_done (by kernel_rfl) ?_ _
 refine hK4 _ _ ?_; clear hK4
 replace Hz : Has 197 [(2, _), (3, _), (4, _), (6, _), (72, _), (81, _)] Az := Hz.only [2, 3, 4, 6, 72, 81]
 refine zsr fun K16 hK16 => ?_
 refine goCh Hz (.loadBR m199 (i := 8) rfl rfl U30 rfl fct10 (by simp) (by dsimp only [List.drop, List.take] <;> rfl) .nil) ?_
 clear Hz Az; intro Az Hz
 refine wpList_plain rfl (fun K hK => ?_)
 refine e_storeW Hz m199 10 rfl rfl rfl rfl rfl fct10 ?_
 clear m199; intro w203 m203 hB203
 clear hB203
 refine hK _ _ ?_; clear hK
 refine goCh Hz (.assign rfl .nil) ?_
 clear Hz Az; intro Az Hz
 refine znl (hK16 _ _ ?_); clear hK16
 refine wp_ret ?_
 try dsimp only [Exit.then, Exit.inBlock]
 refine (retCT (fn := Tryd.f86) Hz m203 (i := 10) rfl rfl rfl rfl U30 rfl fct10 ?_)
 have m205 := m203.freezeN 103 rfl; clear m203
 have hS := pin_sorted (k := k) hsp hall (by omega) (by omega)
 rw [hS] at m205 ⊢
 exact ⟨sortP (pins ++ [at0]), 0, _, _, rfl, by rw [pinR, show reachR hi fl at0 ws.length = 0 from by rw [reachR, if_neg (by simp_all), if_neg (by omega), if_neg (by omega)]]; rfl, m205.ren [(1, 1), (2, 2), (3, 3), (6, 103)] (by decide)⟩
theorem rdone5 (X : Cx) (vo bl sz pe to ne fl : Int) (hi : Bool) (place pins : List Int) (ws : List (Int × List (Int × List Int))) (pp pn pw : Option Addr) (cp cn9 cw : Nat) (v1 v2 v3 v4 v5 at0 v6 : Int) (q1 : Option Addr) (n1 c1 : Nat) (q2 : Option Addr) (n2 c2 : Nat) (w0 : World) (hp : pins.length ≤ 900000) (m0 : MemOk X w0 [(1, .dat (.slice pp place.length cp) (.ns .i64 place)), (2, .dat (.slice pn pins.length cn9) (.ns .i64 pins)), (3, .dat (.slice pw (ws.map wrD).length cw) (.l 2 (ws.map wrD)))] w0) :
   Calls Tryd.prog 86 #[.agg #[.int .i64 vo, .int .i64 bl, .int .i64 sz, .int .i64 pe, .slice pp place.length cp, .int .i64 to, .int .i64 ne, .bool hi, .int .i64 fl, .slice pn pins.length cn9, .slice pw (ws.map wrD).length cw], .agg #[.int .i64 5, .int .i64 v1, .int .i64 v2, .int .i64 v3, .int .i64 v4, .slice q1 n1 c1, .int .i64 v5, .int .i64 at0, .int .i64 v6, .slice q2 n2 c2]] w0 fun e w' => ∃ (pins' : List Int) (e9 : Int) (p2' : Option Addr) (d2' : Nat), e = .returned (.tuple #[.agg #[.int .i64 vo, .int .i64 bl, .int .i64 sz, .int .i64 pe, .slice pp place.length cp, .int .i64 to, .int .i64 ne, .bool hi, .int .i64 fl, .slice p2' pins'.length d2', .slice pw (ws.map wrD).length cw], .int .i64 e9]) ∧ unpinR hi at0 pins = (pins', e9) ∧ MemOk X w0 [(1, .dat (.slice pp place.length cp) (.ns .i64 place)), (2, .dat (.slice pn pins.length cn9) (.ns .i64 pins)), (3, .dat (.slice pw (ws.map wrD).length cw) (.l 2 (ws.map wrD))), (6, .dat (.slice p2' pins'.length d2') (.ns .i64 pins'))] w' := by
 refine ent2 Tryd.func86 rfl Tryd.ntmps86 fun Az Hz => ?_
 refine zsr fun K0 hK0 => ?_
 refine wpList_plain rfl (fun K hK => ?_)
 refine e_box Hz m0 20 (cs := [_, _, _, _, _, _, _, _, _, _, _]) rfl rfl rfl ?_
 clear Hz Az m0; intro g1 Az w2 Hz m2 hB2 hg2
 clear hB2 hg2
 refine hK _ _ ?_; clear hK
 refine wpList_plain rfl (fun K hK => ?_)
 refine e_box Hz m2 21 (cs := [_, _, _, _, _, _, _, _, _, _]) rfl rfl rfl ?_
 clear Hz Az m2; intro g3 Az w4 Hz m4 hB4 hg4
 clear hB4 hg4
 refine hK _ _ ?_; clear hK
 refine wpList_plain rfl (fun K hK => ?_)
 refine e_alloc Hz m4 22 fct12 rfl ?_
 clear Hz Az m4; intro g5 Az w6 Hz m6 hB6 hg6
 clear hB6 hg6
 refine hK _ _ ?_; clear hK
 refine goCh Hz (.assign rfl .nil) ?_
 clear Hz Az; intro Az Hz
 refine znl (hK0 _ _ ?_); clear hK0
 refine wp_seq_k (fun K1 hK1 => ?_)
 refine regS Hz (.fa 0 rfl U87 <| .lb m6 21 U3 rfl rfl rfl <| .nil) ?_
 clear Hz Az; intro Az Hz
 refine wp_block ?_
 refine wp_seq_k (fun K2 hK2 => ?_)
 refine regS Hz (.eql rfl rfl <| .assign rfl <| .nil) ?_
 clear Hz Az; intro Az Hz
 refine bool_cases Hz (t := 10) rfl ?_ ?_
 · intro hb _; exact absurd hb (by simp)
 clear Hz; intro _ Hz
 refine wp_cond_false (Hz.ev (x := .tmp 10) rfl) ?_
 refine regS Hz (.eql rfl rfl <| .assign rfl <| .nil) ?_
 clear Hz Az; intro Az Hz
 refine bool_cases Hz (t := 10) rfl ?_ ?_
 · intro hb _; exact absurd hb (by simp)
 clear Hz; intro _ Hz
 refine wp_cond_false (Hz.ev (x := .tmp 10) rfl) ?_
 refine regS Hz (.eql rfl rfl <| .assign rfl <| .nil) ?_
 clear Hz Az; intro Az Hz
 refine bool_cases Hz (t := 10) rfl ?_ ?_
 · intro hb _; exact absurd hb (by simp)
 clear Hz; intro _ Hz
 refine wp_cond_false (Hz.ev (x := .tmp 10) rfl) ?_
 replace Hz : Has 197 [(2, _), (3, _), (4, _), (5, _), (9, _), (10, _)] Az := Hz.only [2, 3, 4, 5, 9, 10]
 refine wp_region_lit ?_
 refine goCh Hz (.eql rfl rfl <| .assign rfl <| .nil) ?_
 clear Hz Az; intro Az Hz
 refine znl (hK2 _ _ ?_); clear hK2
 refine bool_cases Hz (t := 10) rfl ?_ ?_
 rotate_left
 · intro hb _; exact absurd hb (by simp)
 clear Hz; intro _ Hz
 refine wp_cond_true (Hz.ev (x := .tmp 10) rfl) ?_
 refine regS Hz (.fa 7 rfl U30 <| .lb m6 20 U4 rfl rfl rfl <| .nil) ?_
 clear Hz Az; intro Az Hz
 refine bool_cases Hz (t := 16) rfl ?_ ?_
 ·
  clear Hz; intro hb25 Hz; try simp only [QQ, Qax] at hb25
  refine wp_cond_true (Hz.ev (x := .tmp 16) rfl) ?_
  refine zsr fun K3 hK3 => ?_
  refine goCh Hz (.loadBR m6 (i := 20) rfl rfl U30 rfl fct10 (by simp) (by dsimp only [List.drop, List.take] <;> rfl) .nil) ?_
  clear Hz Az; intro Az Hz
  refine wpList_plain rfl (fun K hK => ?_)
  refine e_storeW Hz m6 22 rfl rfl rfl rfl rfl fct10 ?_
  clear m6; intro w28 m28 hB28
  clear hB28
  refine hK _ _ ?_; clear hK
  refine goCh Hz (.assign rfl .nil) ?_
  clear Hz Az; intro Az Hz
  refine znl (hK3 _ _ ?_); clear hK3
  refine wp_ret ?_
  try dsimp only [Exit.then, Exit.inBlock]
  refine (retCT (fn := Tryd.f86) Hz m28 (i := 22) rfl rfl rfl rfl U30 rfl fct10 ?_)
  have m30 := m28.dat 23 rfl (m28.rd (i := 2) rfl); clear m28
  exact ⟨pins, 28, _, _, rfl, by rw [unpinR, if_pos (by left; assumption)], m30.ren [(1, 1), (2, 2), (3, 3), (6, 23)] (by decide)⟩
 clear Hz; intro hb25 Hz; try simp only [QQ, Qax] at hb25
 refine wp_cond_false (Hz.ev (x := .tmp 16) rfl) ?_
 refine zss (hK1 _ _ ?_); clear hK1
 refine wp_seq_k (fun K4 hK4 => ?_)
 refine regS Hz (.fa 0 rfl U87 <| .lb m6 21 U3 rfl rfl rfl <| .nil) ?_
 clear Hz Az; intro Az Hz
 refine wp_block ?_
 refine regS Hz (.eql rfl rfl <| .assign rfl <| .nil) ?_
 clear Hz Az; intro Az Hz
 refine bool_cases Hz (t := 21) rfl ?_ ?_
 · intro hb _; exact absurd hb (by simp)
 clear Hz; intro _ Hz
 refine wp_cond_false (Hz.ev (x := .tmp 21) rfl) ?_
 replace Hz : Has 197 [(2, _), (3, _), (4, _), (5, _), (16, _), (19, _)] Az := Hz.only [2, 3, 4, 5, 16, 19]
 refine regS Hz (.eql rfl rfl <| .assign rfl <| .nil) ?_
 clear Hz Az; intro Az Hz
 refine bool_cases Hz (t := 36) rfl ?_ ?_
 · intro hb _; exact absurd hb (by simp)
 clear Hz; intro _ Hz
 refine wp_cond_false (Hz.ev (x := .tmp 36) rfl) ?_
 refine regS Hz (.eql rfl rfl <| .assign rfl <| .nil) ?_
 clear Hz Az; intro Az Hz
 refine bool_cases Hz (t := 53) rfl ?_ ?_
 · intro hb _; exact absurd hb (by simp)
 clear Hz; intro _ Hz
 refine wp_cond_false (Hz.ev (x := .tmp 53) rfl) ?_
 refine regS Hz (.eql rfl rfl <| .assign rfl <| .nil) ?_
 clear Hz Az; intro Az Hz
 refine bool_cases Hz (t := 99) rfl ?_ ?_
 rotate_left
 · intro hb _; exact absurd hb (by simp)
 clear Hz; intro _ Hz
 refine wp_cond_true (Hz.ev (x := .tmp 99) rfl) ?_
 refine wp_seq_k (fun K5 hK5 => ?_)
 replace Hz : Has 197 [(2, _), (3, _), (4, _), (5, _), (16, _), (19, _)] Az := Hz.only [2, 3, 4, 5, 16, 19]
 refine regS Hz (.assign rfl <| .nil) ?_
 clear Hz Az; intro Az Hz
 refine wp_block ?_
 refine wp_loop_ghost (fun g a w => ∃ (k B8 B9 B10 : Nat), k ≤ pins.length ∧ g = pins.length - k ∧ (∀ j, j < k → pins.getD j 0 ≠ at0) ∧ Has 197 [(2, .pointer (some ⟨B8, 0, none⟩)), (3, .pointer (some ⟨B9, 0, none⟩)), (4, .pointer (some ⟨B10, 0, none⟩)), (7, .int .i64 k)] a ∧ MemOk X w0 [(1, .dat (.slice pp place.length cp) (.ns .i64 place)), (2, .dat (.slice pn pins.length cn9) (.ns .i64 pins)), (3, .dat (.slice pw (ws.map wrD).length cw) (.l 2 (ws.map wrD))), (8, .box B8 30 [.int .i64 vo, .int .i64 bl, .int .i64 sz, .int .i64 pe, .slice pp place.length cp, .int .i64 to, .int .i64 ne, .bool hi, .int .i64 fl, .slice pn pins.length cn9, .slice pw (ws.map wrD).length cw]), (9, .box B9 87 [.int .i64 5, .int .i64 v1, .int .i64 v2, .int .i64 v3, .int .i64 v4, .slice q1 n1 c1, .int .i64 v5, .int .i64 at0, .int .i64 v6, .slice q2 n2 c2]), (10, .box B10 30 [.int .i64 0, .int .i64 0, .int .i64 0, .int .i64 0, .slice none 0 0, .int .i64 0, .int .i64 0, .bool false, .int .i64 0, .slice none 0 0, .slice none 0 0])] w) (pins.length) ?_ ?_
 · exact ⟨0, _, _, _, Nat.zero_le _, rfl, (fun j hj => by omega), Hz.only [2, 3, 4, 7], m6.ren [(1, 1), (2, 2), (3, 3), (8, 20), (9, 21), (10, 22)] (by decide)⟩
 clear Hz m6
 rintro g Az w48 ⟨k, B8, B9, B10, hkl, hg, hall, Hz, m48⟩
 refine wp_seq_k (fun K6 hK6 => ?_)
 refine regS Hz (.move rfl <| .fa 9 rfl U30 <| .lb m48 8 U27 rfl rfl rfl <| .len rfl U27 <| .lss rfl rfl <| .nil) ?_
 clear Hz Az; intro Az Hz
 refine bool_cases Hz (t := 105) rfl ?_ ?_
 ·
  clear Hz; intro hb54 Hz; try simp only [QQ, Qax] at hb54
  obtain ⟨hk, hkk⟩ : k < pins.length ∧ True := ⟨by omega, trivial⟩
  refine wp_cond_true (Hz.ev (x := .tmp 105) rfl) ?_
  refine zss (hK6 _ _ ?_); clear hK6
  refine wp_seq_k (fun K7 hK7 => ?_)
  refine wp_block ?_
  refine wp_seq_k (fun K8 hK8 => ?_)
  obtain ⟨b55, o55, hp55, m55⟩ := m48.openN (i := 2) rfl (k) (by omega) 100 rfl
  cases hp55; clear m48
  have m56 : MemOk _ _ [(1, _), (2, _), (3, _), (8, _), (9, _), (10, _), (100, _)] _ := m55.only [1, 2, 3, 8, 9, 10, 100]; clear m55
  refine region_p 8 (B := [(1, _), (2, _), (3, _), (8, _), (9, _), (10, _), (100, _)]) (m56.to ⟨il, il, il, il, il, il, il, trivial⟩) m56 (by kernel_rfl) (fun w57 hP57 m57 => ?_); clear m56
  refine goR hP57 [0, 1, 2, 3, 4, 5, 6, 7] [1, 4, 6] 8 0 255 Hz (m57.to ⟨il, il, il, il, il, il, il, trivial⟩) (.fa 9 rfl U30 <| .lb hh 8 U27 rfl rfl rfl <| .move rfl <| .p (fun _ _ h => y_idx h rfl rfl U27 fct23 (k) rfl (by omega)) <| .loadC0 hh (i := 100) rfl rfl U2 rfl <| .fa 7 rfl U87 <| .lb hh 9 U2 rfl rfl rfl <| .eql rfl rfl <| .nil) ?_
  clear Hz Az; intro Az Hz
  refine wpAnyE_done (by kernel_rfl) ?_ _
  refine hK8 _ _ ?_; clear hK8
  refine bool_cases Hz (t := 115) rfl ?_ ?_
  ·
   clear Hz; intro hb66 Hz; try simp only [QQ, Qax] at hb66
   refine wp_cond_true (Hz.ev (x := .tmp 115) rfl) ?_
   refine wp_seq_k (fun K9 hK9 => ?_)
   replace Hz : Has 197 [(2, _), (3, _), (4, _), (7, _), (105, _), (115, _)] Az := Hz.only [2, 3, 4, 7, 105, 115]
   have m68 : MemOk _ _ [(1, _), (2, _), (3, _), (8, _), (9, _), (10, _), (100, _)] _ := m57.only [1, 2, 3, 8, 9, 10, 100]; clear m57
   refine region_p 12 (B := [(1, _), (2, _), (3, _), (8, _), (9, _), (10, _), (100, _)]) (m68.to ⟨il, il, il, il, il, il, il, trivial⟩) m68 (by kernel_rfl) (fun w69 hP69 m69 => ?_); clear m68
   refine goR hP69 [0, 1, 2] [1] 3 0 7 Hz (m69.to ⟨il, il, il, il, il, il, il, trivial⟩) (.fa 9 rfl U30 <| .lb hh 8 U27 rfl rfl rfl <| .move rfl <| .nil) ?_
   clear Hz Az; intro Az Hz
   have hcap73 := (m69.rd (i := 2) rfl).ns_out.cap
   have m73 := m69.takeN (i := 2) rfl (k) hkl 101 rfl; clear m69
   refine goR hP69 [3, 5, 6, 7, 8] [6] 5 7 495 Hz (m73.to ⟨il, il, il, il, il, il, il, trivial⟩) (.p (fun _ _ h => y_sliceHn h (k) rfl rfl U27 fct23 rfl (Nat.le_trans hkl hcap73.1)) <| .fa 9 rfl U30 <| .lb hh 8 U27 rfl rfl rfl <| .move rfl <| .add rfl rfl (r := ((k + 1 : Nat) : Int)) (by rw [IntWalk.i64_in _ (by omega)]; omega) <| .nil) ?_
   clear Hz Az; intro Az Hz
   have m79 := m73.dropN (i := 2) rfl (k + 1) (show k + 1 ≤ pins.length by omega) 102 rfl; clear m73
   refine goA hP69 [9] 1 495 1007 Hz (m79.to ⟨il, il, il, il, il, il, il, trivial⟩) (.p (fun _ _ h => y_sliceLn h (k + 1) rfl rfl U27 fct23 rfl (show k + 1 ≤ pins.length by omega)) <| .nil) ?_
   clear Hz Az; intro Az Hz
   refine stepE_only 4 rfl (by kernel_rfl) rfl (fun K hK => ?_)
   refine e_app0N Hz m79 103 rfl rfl (m79.nums (i := 101) rfl) U27 fct22 (by decide) (by simp; omega) rfl ?_
   clear Hz Az m79; intro p81 c81 Az w82 Hz m82
   refine hK _ _ (m82.to ⟨il, il, il, il, il, il, il, trivial⟩) ?_; clear hK K
   refine stepE_only 10 rfl (by kernel_rfl) rfl (fun K hK => ?_)
   refine e_appN Hz m82 103 rfl rfl rfl (m82.nums (i := 102) rfl) U27 fct22 (by decide) (by simp; omega) rfl ?_
   clear Hz Az m82; intro p83 c83 Az w84 Hz m84
   refine hK _ _ (m84.to ⟨il, il, il, il, il, il, il, trivial⟩) ?_; clear hK K
   refine goA hP69 [11] 1 2047 4095 Hz (m84.to ⟨il, il, il, il, il, il, il, trivial⟩) (.fa 9 rfl U30 <| .nil) ?_
   clear Hz Az; intro Az Hz
   refine stepE_end 12 rfl (by kernel_rfl) rfl (by rfl) (fun K hK => ?_)
   refine e_store1 Hz m84 8 rfl rfl rfl rfl rfl fct29 (by dsimp only [List.set] <;> rfl) ?_
   clear m84; intro w86 m86 hB86
   clear hB86
   refine hK _ _ ?_; clear hK
   refine wpAnyE_done (by kernel_rfl) ?_ _
   refine hK9 _ _ ?_; clear hK9
   replace Hz : Has 197 [(2, _), (3, _), (4, _), (7, _), (105, _), (115, _)] Az := Hz.only [2, 3, 4, 7, 105, 115]
   refine zsr fun K10 hK10 => ?_
   refine goCh Hz (.loadBR m86 (i := 8) rfl rfl U30 rfl fct10 (by simp) (by dsimp only [List.drop, List.take] <;> rfl) .nil) ?_
   clear Hz Az; intro Az Hz
   refine wpList_plain rfl (fun K hK => ?_)
   refine e_storeW Hz m86 10 rfl rfl rfl rfl rfl fct10 ?_
   clear m86; intro w90 m90 hB90
   clear hB90
   refine hK _ _ ?_; clear hK
   refine goCh Hz (.assign rfl .nil) ?_
   clear Hz Az; intro Az Hz
   refine znl (hK10 _ _ ?_); clear hK10
   refine wp_ret ?_
   try dsimp only [Exit.then, Exit.inBlock]
   refine (retCT (fn := Tryd.f86) Hz m90 (i := 10) rfl rfl rfl rfl U30 rfl fct10 ?_)
   have m92 := m90.freezeN 103 rfl; clear m90
   have hI := Lib.idxOf_hit pins pins.length k at0 hk (Nat.le_refl _) (by omega) hall
   rw [List.take_length] at hI
   exact ⟨pins.take k ++ pins.drop (k + 1), 0, _, _, rfl, by rw [unpinR, if_neg (by rintro (h | h) <;> first | omega | simp_all), hI]; simp, m92.ren [(1, 1), (2, 2), (3, 3), (6, 103)] (by decide)⟩
  clear Hz; intro hb66 Hz; try simp only [QQ, Qax] at hb66
  refine wp_cond_false (Hz.ev (x := .tmp 115) rfl) ?_
  refine zss (hK7 _ _ ?_); clear hK7
  replace Hz : Has 197 [(2, _), (3, _), (4, _), (7, _), (105, _), (115, _)] Az := Hz.only [2, 3, 4, 7, 105, 115]
  refine wp_region_lit ?_
  refine goCh Hz (.move rfl <| .add rfl rfl (r := ((k + 1 : Nat) : Int)) (by rw [IntWalk.i64_in _ (by omega)]; omega) <| .assign rfl <| .nil) ?_
  clear Hz Az; intro Az Hz
  refine wpList_nil ?_
  show ∃ n', n' < _ ∧ _
  exact ⟨pins.length - (k + 1), by omega, k + 1, _, _, _, by omega, rfl, nn_snoc hall (by omega), Hz.only [2, 3, 4, 7], m57.only [1, 2, 3, 8, 9, 10]⟩
 clear Hz; intro hb54 Hz; try simp only [QQ, Qax] at hb54
 obtain rfl : k = pins.length := by omega
 refine wp_cond_false (Hz.ev (x := .tmp 105) rfl) ?_
 refine wp_exit ?_
 refine hK5 _ _ ?_; clear hK5
 refine zsr fun K11 hK11 => ?_
 refine goCh Hz (.loadBR m48 (i := 8) rfl rfl U30 rfl fct10 (by simp) (by dsimp only [List.drop, List.take] <;> rfl) .nil) ?_
 clear Hz Az; intro Az Hz
 refine wpList_plain rfl (fun K hK => ?_)
 refine e_storeW Hz m48 10 rfl rfl rfl rfl rfl fct10 ?_
 clear m48; intro w99 m99 hB99
 clear hB99
 refine hK _ _ ?_; clear hK
 refine goCh Hz (.assign rfl .nil) ?_
 clear Hz Az; intro Az Hz
 refine znl (hK11 _ _ ?_); clear hK11
 refine wp_ret ?_
 try dsimp only [Exit.then, Exit.inBlock]
 refine (retCT (fn := Tryd.f86) Hz m99 (i := 10) rfl rfl rfl rfl U30 rfl fct10 ?_)
 have m101 := m99.dat 100 rfl (m99.rd (i := 2) rfl); clear m99
 have hI := Lib.idxOf_miss pins pins.length at0 hall
 rw [List.take_length] at hI
 exact ⟨pins, 28, _, _, rfl, by rw [unpinR, if_pos (by right; omega)], m101.ren [(1, 1), (2, 2), (3, 3), (6, 100)] (by decide)⟩
end Go.Proofs.YtflcgpajodfkoaaDoor.K
