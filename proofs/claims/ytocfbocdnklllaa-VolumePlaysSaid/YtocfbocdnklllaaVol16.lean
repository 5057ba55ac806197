/- volume: what a call does, by the reference. -/
import Derived.Test.YtocfbocdnklllaaVol15
namespace Go.Proofs.Ytocfbocdnklllaa.K
open Go.ChangeShapes Go.WideShapes Go.ChangeAt Go.RowKit
set_option linter.unusedVariables false
set_option linter.unusedSimpArgs false

theorem sz2dn : (Try.prog.info? 2).map (·.size) = some 1 := by kernel_rfl
theorem sz3dn : (Try.prog.info? 3).map (·.size) = some 1 := by kernel_rfl
theorem sz4dn : (Try.prog.info? 4).map (·.size) = some 1 := by kernel_rfl
theorem sz34dn : (Try.prog.info? 34).map (·.size) = some 11 := by kernel_rfl
theorem zc34dn : ((Try.prog.info? 34).bind (·.zero)).map (·.cells.toList) = some [.int .i64 0, .int .i64 0, .int .i64 0, .int .i64 0, .slice none 0 0, .int .i64 0, .int .i64 0, .bool false, .int .i64 0, .slice none 0 0, .slice none 0 0] := by kernel_rfl
theorem inf2dn4 : (Try.prog.info? 2).map (fun i => (i.zero, i.size, i.bytes)) = some (some (.int .i64 0), 1, 8) := by kernel_rfl
theorem sz2dn4 : (Try.prog.info? 2).map (·.size) = some 1 := by kernel_rfl
theorem sz31dn4 : (Try.prog.info? 31).map (·.size) = some 1 := by kernel_rfl
theorem sz34dn4 : (Try.prog.info? 34).map (·.size) = some 11 := by kernel_rfl
theorem zc34dn4 : ((Try.prog.info? 34).bind (·.zero)).map (·.cells.toList) = some [.int .i64 0, .int .i64 0, .int .i64 0, .int .i64 0, .slice none 0 0, .int .i64 0, .int .i64 0, .bool false, .int .i64 0, .slice none 0 0, .slice none 0 0] := by kernel_rfl
theorem inf2dn5 : (Try.prog.info? 2).map (fun i => (i.zero, i.size, i.bytes)) = some (some (.int .i64 0), 1, 8) := by kernel_rfl
theorem sz2dn5 : (Try.prog.info? 2).map (·.size) = some 1 := by kernel_rfl
theorem sz31dn5 : (Try.prog.info? 31).map (·.size) = some 1 := by kernel_rfl
theorem sz34dn5 : (Try.prog.info? 34).map (·.size) = some 11 := by kernel_rfl
theorem zc34dn5 : ((Try.prog.info? 34).bind (·.zero)).map (·.cells.toList) = some [.int .i64 0, .int .i64 0, .int .i64 0, .int .i64 0, .slice none 0 0, .int .i64 0, .int .i64 0, .bool false, .int .i64 0, .slice none 0 0, .slice none 0 0] := by kernel_rfl

theorem le_snoc {l : List Int} {k : Nat} {a : Int} (h : ∀ j, j < k → l.getD j 0 ≤ a) (hk : l.getD k 0 ≤ a) : ∀ j, j < k + 1 → l.getD j 0 ≤ a := fun j hj => by
 rcases Nat.lt_or_ge j k with h1 | h1
 · exact h j h1
 · obtain rfl : j = k := by omega
   exact hk
theorem nn_snoc {l : List Int} {k : Nat} {a : Int} (h : ∀ j, j < k → l.getD j 0 ≠ a) (hk : ¬ l.getD k 0 = a) : ∀ j, j < k + 1 → l.getD j 0 ≠ a := fun j hj => by
 rcases Nat.lt_or_ge j k with h1 | h1
 · exact h j h1
 · obtain rfl : j = k := by omega
   exact hk
theorem sortP_sorted (l : List Int) : (sortP l).Pairwise (· ≤ ·) := by
 have h := List.pairwise_mergeSort (le := fun (x y : Int) => decide (x ≤ y)) (fun a b c h1 h2 => by simp at h1 h2 ⊢; omega) (fun a b => by simp; omega) l
 exact h.imp (fun h => by simpa using h)
theorem pin_sorted {pins : List Int} {at0 : Int} {k : Nat} (hs : pins.Pairwise (· ≤ ·)) (hall : ∀ j, j < k → pins.getD j 0 ≤ at0) (hkl : k ≤ pins.length) (hnx : k = pins.length ∨ at0 < pins.getD k 0) : pins.take k ++ [at0] ++ pins.drop k = sortP (pins ++ [at0]) := by
 refine List.Perm.eq_of_pairwise (le := (· ≤ ·)) (fun a b _ _ h1 h2 => by omega) ?_ (sortP_sorted _) ?_
 · rw [List.append_assoc, List.pairwise_append]
   refine ⟨hs.sublist (List.take_sublist _ _), ?_, ?_⟩
   · rw [List.singleton_append, List.pairwise_cons]
     refine ⟨fun b hb => ?_, hs.sublist (List.drop_sublist _ _)⟩
     rcases hnx with rfl | hnx
     · rw [List.drop_length] at hb; cases hb
     · obtain ⟨j, hj, rfl⟩ := List.getElem_of_mem hb
       rw [List.length_drop] at hj
       rw [List.getElem_drop]
       have h1 : pins.getD k 0 ≤ pins[k + j] := by
         rw [List.getD, List.getElem?_eq_getElem (by omega)]
         rcases Nat.eq_zero_or_pos j with rfl | hj0
         · exact Int.le_refl _
         · exact List.pairwise_iff_getElem.1 hs k (k + j) (by omega) (by omega) (by omega)
       omega
   · intro a ha b hb
     obtain ⟨j, hj, rfl⟩ := List.getElem_of_mem ha
     rw [List.length_take] at hj
     rw [List.getElem_take]
     have h1 : pins[j] ≤ at0 := by have := hall j (by omega); rwa [List.getD, List.getElem?_eq_getElem (by omega)] at this
     rcases List.mem_append.1 hb with hb | hb
     · simp at hb; omega
     · obtain ⟨i, hi, rfl⟩ := List.getElem_of_mem hb
       rw [List.length_drop] at hi
       rw [List.getElem_drop]
       exact List.pairwise_iff_getElem.1 hs j (k + i) (by omega) (by omega) (by omega)
 · refine List.Perm.trans ?_ (List.mergeSort_perm _ _).symm
   rw [List.append_assoc]
   refine (List.Perm.append_left _ (List.perm_append_comm)).trans ?_
   rw [← List.append_assoc, List.take_append_drop]
set_option maxRecDepth 100000
set_option maxHeartbeats 4000000
theorem rdone (X : Cx) (vo bl sz pe to ne fl : Int) (hi : Bool) (place pins : List Int) (ws : List (Int × List (Int × List Int))) (items : List (Int × List Int)) (pp pn pw : Option Addr) (cp cn9 cw : Nat) (pi : Option Addr) (ci : Nat) (kd v1 v2 v3 v4 v5 at0 ix : Int) (q1 : Option Addr) (n1 c1 : Nat) (w0 : World) (hk4 : kd ≠ 4) (hk5 : kd ≠ 5) (hne : -1000000000000000 ≤ ne ∧ ne ≤ 1000000000000000) (hl : ws.length ≤ 900000) (hp : pins.length ≤ 1000000) (hil : items.length ≤ 1000000) (hio : ItsOk items) (m0 : MemOk X w0 [(1, .dat (.slice pp place.length cp) (.ns .i64 place)), (2, .dat (.slice pn pins.length cn9) (.ns .i64 pins)), (3, .dat (.slice pw (ws.map wrD).length cw) (.l 2 (ws.map wrD))), (4, .dat (.slice pi items.length ci) (.l 2 (items.map itD)))] w0) :
   Calls Try.prog 44 #[.agg #[.int .i64 vo, .int .i64 bl, .int .i64 sz, .int .i64 pe, .slice pp place.length cp, .int .i64 to, .int .i64 ne, .bool hi, .int .i64 fl, .slice pn pins.length cn9, .slice pw (ws.map wrD).length cw], .agg #[.int .i64 kd, .int .i64 v1, .int .i64 v2, .int .i64 v3, .int .i64 v4, .slice q1 n1 c1, .int .i64 v5, .int .i64 at0, .int .i64 ix, .slice pi items.length ci]] w0 fun e w' => ∃ (ne' : Int) (hi' : Bool) (fl' : Int) (ws' : List (Int × List (Int × List Int))) (e9 : Int) (p3' : Option Addr) (d3' : Nat), e = .returned (.tuple #[.agg #[.int .i64 vo, .int .i64 bl, .int .i64 sz, .int .i64 pe, .slice pp place.length cp, .int .i64 to, .int .i64 ne', .bool hi', .int .i64 fl', .slice pn pins.length cn9, .slice p3' (ws'.map wrD).length d3'], .int .i64 e9]) ∧ doR bl sz to ne fl hi pins ws kd at0 ix items = (ne', hi', fl', ws', e9) ∧ MemOk X w0 [(1, .dat (.slice pp place.length cp) (.ns .i64 place)), (2, .dat (.slice pn pins.length cn9) (.ns .i64 pins)), (3, .dat (.slice pw (ws.map wrD).length cw) (.l 2 (ws.map wrD))), (4, .dat (.slice pi items.length ci) (.l 2 (items.map itD))), (7, .dat (.slice p3' (ws'.map wrD).length d3') (.l 2 (ws'.map wrD)))] w' := by
 refine enter (fn := Try.f44) Try.func44 rfl Try.ntmps44 rfl (fun a0 ha0 => ?_)
 simp only [List.zipIdx_cons, List.zipIdx_nil, List.map_cons, List.map_nil, Nat.reduceAdd, Nat.zero_add] at ha0
 refine wp_seq_k (fun K0 hK0 => ?_)
 refine wp_region_lit ?_
 refine wpList_plain rfl (fun K hK => ?_)
 refine e_box ha0 m0 20 (cs := [_, _, _, _, _, _, _, _, _, _, _]) rfl rfl rfl ?_
 clear ha0 a0 m0; intro g1 a2 w2 ha2 m2 hB2 hg2
 clear hB2 hg2
 refine hK _ _ ?_; clear hK K
 refine wpList_plain rfl (fun K hK => ?_)
 refine e_box ha2 m2 21 (cs := [_, _, _, _, _, _, _, _, _, _]) rfl rfl rfl ?_
 clear ha2 a2 m2; intro g3 a4 w4 ha4 m4 hB4 hg4
 clear hB4 hg4
 refine hK _ _ ?_; clear hK K
 refine wpList_plain rfl (fun K hK => ?_)
 refine e_alloc ha4 m4 22 zc34dn rfl ?_
 clear ha4 a4 m4; intro g5 a6 w6 ha6 m6 hB6 hg6
 clear hB6 hg6
 refine hK _ _ ?_; clear hK K
 refine st_y ha6 rfl (y_assign ha6 rfl) ?_
 clear ha6 a6; intro a7 ha7
 refine wpList_nil ?_
 refine hK0 _ _ ?_; clear hK0; try clear K0
 refine wp_seq_k (fun K1 hK1 => ?_)
 refine wp_seq_k (fun K2 hK2 => ?_)
 refine wp_region_lit ?_
 refine st_y ha7 rfl (y_fieldAddr ha7 (off := 0) rfl Try.underlying25 rfl (s := 0) (by kernel_rfl) rfl) ?_
 clear ha7 a7; intro a8 ha8
 refine st_y ha8 rfl (y_loadB1 ha8 m6 (i := 21) rfl rfl rfl Try.underlying3 rfl) ?_
 clear ha8 a8; intro a9 ha9
 refine wpList_nil ?_
 refine hK2 _ _ ?_; clear hK2; try clear K2
 refine wp_block ?_
 refine wp_seq_k (fun K3 hK3 => ?_)
 refine wp_seq_k (fun K4 hK4 => ?_)
 refine wp_region_lit ?_
 refine st_y ha9 rfl (y_eql ha9 rfl rfl) ?_
 clear ha9 a9; intro a10 ha10
 refine st_y ha10 rfl (y_assign ha10 rfl) ?_
 clear ha10 a10; intro a11 ha11
 refine wpList_nil ?_
 refine hK4 _ _ ?_; clear hK4; try clear K4
 refine bool_cases ha11 (t := 10) rfl (fun hb12 ha12 => ?_) (fun hb12 ha12 => ?_)
 ·
  clear ha11
  try simp only [Q1x, Q2x, Q3x, Q4x, Q5x, Q6x, Q7x, Q8x, Q9x, Q0x, Qax, Qbx] at hb12
  refine wp_cond_true (ha12.ev (x := .tmp 10) rfl) ?_
  refine wp_skip ?_
  refine hK3 _ _ ?_; clear hK3; try clear K3
  refine wp_cond_true (ha12.ev (x := .tmp 10) rfl) ?_
  refine wp_seq_k (fun K5 hK5 => ?_)
  refine wp_region_lit ?_
  refine st_y ha12 rfl (y_fieldAddr ha12 (off := 7) rfl Try.underlying34 rfl (s := 0) (by kernel_rfl) rfl) ?_
  clear ha12 a11; intro a13 ha13
  refine st_y ha13 rfl (y_loadB1 ha13 m6 (i := 20) rfl rfl rfl Try.underlying4 rfl) ?_
  clear ha13 a13; intro a14 ha14
  refine wpList_nil ?_
  refine hK5 _ _ ?_; clear hK5; try clear K5
  refine bool_cases ha14 (t := 16) rfl (fun hb15 ha15 => ?_) (fun hb15 ha15 => ?_)
  ·
   clear ha14
   try simp only [Q1x, Q2x, Q3x, Q4x, Q5x, Q6x, Q7x, Q8x, Q9x, Q0x, Qax, Qbx] at hb15
   refine wp_cond_true (ha15.ev (x := .tmp 16) rfl) ?_
   refine wp_seq_k (fun K6 hK6 => ?_)
   have ha16 : Has 197 [(2, _), (3, _), (4, _), (5, _), (10, _), (16, _)] a14 := ha15.only [2, 3, 4, 5, 10, 16]; clear ha15
   refine wp_region_lit ?_
   refine st_y ha16 rfl (y_loadBR ha16 m6 (i := 20) rfl rfl Try.underlying34 rfl sz34dn (by simp) (by dsimp only [List.drop, List.take] <;> rfl)) ?_
   clear ha16 a14; intro a17 ha17
   refine wpList_plain rfl (fun K hK => ?_)
   refine e_storeW ha17 m6 22 rfl rfl rfl rfl rfl sz34dn ?_
   clear m6; intro w18 m18 hB18
   clear hB18
   refine hK _ _ ?_; clear hK K
   refine st_y ha17 rfl (y_assign ha17 rfl) ?_
   clear ha17 a17; intro a19 ha19
   refine wpList_nil ?_
   refine hK6 _ _ ?_; clear hK6; try clear K6
   refine wp_ret ?_
   try dsimp only [Exit.then, Exit.inBlock]
   refine (retCT (fn := Try.f44) ha19 m18 (i := 22) rfl rfl rfl rfl Try.underlying34 rfl sz34dn ?_)
   have m20 := m18.dat 23 rfl (m18.rd (i := 3) rfl); clear m18
   exact ⟨ne, hi, fl, ws, 28, _, _, rfl, by rw [doR, if_pos (by omega), putR, if_pos (by assumption)], m20.ren [(1, 1), (2, 2), (3, 3), (4, 4), (7, 23)] (by decide)⟩
  ·
   clear ha14
   try simp only [Q1x, Q2x, Q3x, Q4x, Q5x, Q6x, Q7x, Q8x, Q9x, Q0x, Qax, Qbx] at hb15
   refine wp_cond_false (ha15.ev (x := .tmp 16) rfl) ?_
   refine wp_skip ?_
   refine hK1 _ _ ?_; clear hK1; try clear K1
   refine wp_seq_k (fun K7 hK7 => ?_)
   refine wp_seq_k (fun K8 hK8 => ?_)
   have ha21 : Has 197 [(2, _), (3, _), (4, _), (5, _), (10, _), (16, _)] a14 := ha15.only [2, 3, 4, 5, 10, 16]; clear ha15
   refine wp_region_lit ?_
   refine st_y ha21 rfl (y_fieldAddr ha21 (off := 0) rfl Try.underlying25 rfl (s := 0) (by kernel_rfl) rfl) ?_
   clear ha21 a14; intro a22 ha22
   refine st_y ha22 rfl (y_loadB1 ha22 m6 (i := 21) rfl rfl rfl Try.underlying3 rfl) ?_
   clear ha22 a22; intro a23 ha23
   refine wpList_nil ?_
   refine hK8 _ _ ?_; clear hK8; try clear K8
   refine wp_block ?_
   refine wp_seq_k (fun K9 hK9 => ?_)
   refine wp_region_lit ?_
   refine st_y ha23 rfl (y_eql ha23 rfl rfl) ?_
   clear ha23 a23; intro a24 ha24
   refine st_y ha24 rfl (y_assign ha24 rfl) ?_
   clear ha24 a24; intro a25 ha25
   refine wpList_nil ?_
   refine hK9 _ _ ?_; clear hK9; try clear K9
   refine bool_cases ha25 (t := 21) rfl (fun hb26 ha26 => ?_) (fun hb26 ha26 => ?_)
   rotate_left
   · exact absurd hb26 (by simp; omega)
   clear ha25 hb26
   refine wp_cond_true (ha26.ev (x := .tmp 21) rfl) ?_
   refine wp_seq_k (fun K10 hK10 => ?_)
   refine wp_seq_k (fun K11 hK11 => ?_)
   refine wp_region_lit ?_
   refine st_y ha26 rfl (y_fieldAddr ha26 (off := 1) rfl Try.underlying34 rfl (s := 0) (by kernel_rfl) rfl) ?_
   clear ha26 a25; intro a27 ha27
   refine st_y ha27 rfl (y_loadB1 ha27 m6 (i := 20) rfl rfl rfl Try.underlying3 rfl) ?_
   clear ha27 a27; intro a28 ha28
   refine st_y ha28 rfl (y_fieldAddr ha28 (off := 2) rfl Try.underlying34 rfl (s := 0) (by kernel_rfl) rfl) ?_
   clear ha28 a28; intro a29 ha29
   refine st_y ha29 rfl (y_loadB1 ha29 m6 (i := 20) rfl rfl rfl Try.underlying3 rfl) ?_
   clear ha29 a29; intro a30 ha30
   refine st_y ha30 rfl (y_fieldAddr ha30 (off := 9) rfl Try.underlying25 rfl (s := 0) (by kernel_rfl) rfl) ?_
   clear ha30 a30; intro a31 ha31
   refine st_y ha31 rfl (y_loadB1 ha31 m6 (i := 21) rfl rfl rfl Try.underlying23 rfl) ?_
   clear ha31 a31; intro a32 ha32
   refine wpList_plain rfl (fun K hK => ?_)
   refine e_call ha32 Try.func29 rfl rfl rfl rfl (ritems_any _ _ items _ _ _ _ ((m6.rd (i := 4) rfl).any) hil) ?_
   rintro e w33 ⟨ib, rfl, hib, hb33⟩
   have m34 := m6.later hb33
   clear m6
   clear hb33
   refine ⟨_, rfl, fun a35 ha35 => ?_⟩; clear ha32 a32
   refine hK _ _ ?_; clear hK K
   refine st_y ha35 rfl (y_not ha35 rfl) ?_
   clear ha35 a35; intro a36 ha36
   refine wpList_nil ?_
   refine hK11 _ _ ?_; clear hK11; try clear K11
   refine bool_cases ha36 (t := 30) rfl (fun hb37 ha37 => ?_) (fun hb37 ha37 => ?_)
   ·
    clear ha36
    try simp only [Q1x, Q2x, Q3x, Q4x, Q5x, Q6x, Q7x, Q8x, Q9x, Q0x, Qax, Qbx] at hb37
    refine wp_cond_true (ha37.ev (x := .tmp 30) rfl) ?_
    refine wp_seq_k (fun K12 hK12 => ?_)
    have ha38 : Has 197 [(2, _), (3, _), (4, _), (5, _), (10, _), (16, _), (19, _), (21, _), (30, _)] a36 := ha37.only [2, 3, 4, 5, 10, 16, 19, 21, 30]; clear ha37
    refine wp_region_lit ?_
    refine st_y ha38 rfl (y_loadBR ha38 m34 (i := 20) rfl rfl Try.underlying34 rfl sz34dn (by simp) (by dsimp only [List.drop, List.take] <;> rfl)) ?_
    clear ha38 a36; intro a39 ha39
    refine wpList_plain rfl (fun K hK => ?_)
    refine e_storeW ha39 m34 22 rfl rfl rfl rfl rfl sz34dn ?_
    clear m34; intro w40 m40 hB40
    clear hB40
    refine hK _ _ ?_; clear hK K
    refine st_y ha39 rfl (y_assign ha39 rfl) ?_
    clear ha39 a39; intro a41 ha41
    refine wpList_nil ?_
    refine hK12 _ _ ?_; clear hK12; try clear K12
    refine wp_ret ?_
    try dsimp only [Exit.then, Exit.inBlock]
    refine (retCT (fn := Try.f44) ha41 m40 (i := 22) rfl rfl rfl rfl Try.underlying34 rfl sz34dn ?_)
    have m42 := m40.dat 23 rfl (m40.rd (i := 3) rfl); clear m40
    exact ⟨ne, hi, fl, ws, 23, _, _, rfl, by rw [doR, if_pos (by omega), putR, if_neg (by simp_all), wrR, if_neg (fun h => by have h9 := hib.2 h; simp_all)], m42.ren [(1, 1), (2, 2), (3, 3), (4, 4), (7, 23)] (by decide)⟩
   ·
    clear ha36
    try simp only [Q1x, Q2x, Q3x, Q4x, Q5x, Q6x, Q7x, Q8x, Q9x, Q0x, Qax, Qbx] at hb37
    refine wp_cond_false (ha37.ev (x := .tmp 30) rfl) ?_
    refine wp_skip ?_
    refine hK10 _ _ ?_; clear hK10; try clear K10
    refine wp_seq_k (fun K13 hK13 => ?_)
    have ha43 : Has 197 [(2, _), (3, _), (4, _), (5, _), (10, _), (16, _), (19, _), (21, _), (30, _)] a36 := ha37.only [2, 3, 4, 5, 10, 16, 19, 21, 30]; clear ha37
    refine wp_region_lit ?_
    refine st_y ha43 rfl (y_loadBR ha43 m34 (i := 20) rfl rfl Try.underlying34 rfl sz34dn (by simp) (by dsimp only [List.drop, List.take] <;> rfl)) ?_
    clear ha43 a36; intro a44 ha44
    refine st_y ha44 rfl (y_fieldAddr ha44 (off := 9) rfl Try.underlying25 rfl (s := 0) (by kernel_rfl) rfl) ?_
    clear ha44 a44; intro a45 ha45
    refine st_y ha45 rfl (y_loadB1 ha45 m34 (i := 21) rfl rfl rfl Try.underlying23 rfl) ?_
    clear ha45 a45; intro a46 ha46
    refine wpList_plain rfl (fun K hK => ?_)
    refine e_call ha46 Try.func65 rfl rfl rfl rfl (rwrite_fr _ _ _ _ _ _ _ _ _ place pins ws items _ _ _ _ _ _ _ _ _ hl hil hio (m34.into [(1, 1), (2, 2), (3, 3), (4, 4)] (by decide) rfl)) ?_
    rintro e w47 ⟨p47, c47, rfl, hm47⟩
    have mx47 := m34.back hm47 [(1, 1), (2, 2), (3, 3), (4, 4), (23, 7)] (by decide); clear hm47 m34
    have m47 : MemOk _ _ [(1, _), (2, _), (3, _), (4, _), (23, _), (20, _), (21, _), (22, _)] _ := mx47.only [1, 2, 3, 4, 23, 20, 21, 22]; clear mx47
    refine ⟨_, rfl, fun a48 ha48 => ?_⟩; clear ha46 a46
    refine hK _ _ ?_; clear hK K
    refine wpList_plain rfl (fun K hK => ?_)
    refine e_storeW ha48 m47 22 rfl rfl rfl rfl rfl sz34dn ?_
    clear m47; intro w49 m49 hB49
    clear hB49
    refine hK _ _ ?_; clear hK K
    refine st_y ha48 rfl (y_assign ha48 rfl) ?_
    clear ha48 a48; intro a50 ha50
    refine wpList_nil ?_
    refine hK13 _ _ ?_; clear hK13; try clear K13
    refine wp_ret ?_
    try dsimp only [Exit.then, Exit.inBlock]
    refine (retCT (fn := Try.f44) ha50 m49 (i := 22) rfl rfl rfl rfl Try.underlying34 rfl sz34dn ?_)
    exact ⟨ne, hi, fl, (ws ++ [((ws.length : Int) + 1, items)]), 0, _, _, rfl, by rw [doR, if_pos (by omega), putR, if_neg (by simp_all), wrR, if_pos (hib.1 (by simp_all))], m49.ren [(1, 1), (2, 2), (3, 3), (4, 4), (7, 23)] (by decide)⟩
 ·
  clear ha11
  try simp only [Q1x, Q2x, Q3x, Q4x, Q5x, Q6x, Q7x, Q8x, Q9x, Q0x, Qax, Qbx] at hb12
  refine wp_cond_false (ha12.ev (x := .tmp 10) rfl) ?_
  refine wp_seq_k (fun K14 hK14 => ?_)
  refine wp_region_lit ?_
  refine st_y ha12 rfl (y_eql ha12 rfl rfl) ?_
  clear ha12 a11; intro a51 ha51
  refine st_y ha51 rfl (y_assign ha51 rfl) ?_
  clear ha51 a51; intro a52 ha52
  refine wpList_nil ?_
  refine hK14 _ _ ?_; clear hK14; try clear K14
  refine bool_cases ha52 (t := 10) rfl (fun hb53 ha53 => ?_) (fun hb53 ha53 => ?_)
  ·
   clear ha52
   try simp only [Q1x, Q2x, Q3x, Q4x, Q5x, Q6x, Q7x, Q8x, Q9x, Q0x, Qax, Qbx] at hb53
   refine wp_cond_true (ha53.ev (x := .tmp 10) rfl) ?_
   refine wp_skip ?_
   refine hK3 _ _ ?_; clear hK3; try clear K3
   refine wp_cond_true (ha53.ev (x := .tmp 10) rfl) ?_
   refine wp_seq_k (fun K15 hK15 => ?_)
   have ha54 : Has 197 [(2, _), (3, _), (4, _), (5, _), (10, _)] a52 := ha53.only [2, 3, 4, 5, 10]; clear ha53
   refine wp_region_lit ?_
   refine st_y ha54 rfl (y_fieldAddr ha54 (off := 7) rfl Try.underlying34 rfl (s := 0) (by kernel_rfl) rfl) ?_
   clear ha54 a52; intro a55 ha55
   refine st_y ha55 rfl (y_loadB1 ha55 m6 (i := 20) rfl rfl rfl Try.underlying4 rfl) ?_
   clear ha55 a55; intro a56 ha56
   refine wpList_nil ?_
   refine hK15 _ _ ?_; clear hK15; try clear K15
   refine bool_cases ha56 (t := 16) rfl (fun hb57 ha57 => ?_) (fun hb57 ha57 => ?_)
   ·
    clear ha56
    try simp only [Q1x, Q2x, Q3x, Q4x, Q5x, Q6x, Q7x, Q8x, Q9x, Q0x, Qax, Qbx] at hb57
    refine wp_cond_true (ha57.ev (x := .tmp 16) rfl) ?_
    refine wp_seq_k (fun K16 hK16 => ?_)
    refine wp_region_lit ?_
    refine st_y ha57 rfl (y_loadBR ha57 m6 (i := 20) rfl rfl Try.underlying34 rfl sz34dn (by simp) (by dsimp only [List.drop, List.take] <;> rfl)) ?_
    clear ha57 a56; intro a58 ha58
    refine wpList_plain rfl (fun K hK => ?_)
    refine e_storeW ha58 m6 22 rfl rfl rfl rfl rfl sz34dn ?_
    clear m6; intro w59 m59 hB59
    clear hB59
    refine hK _ _ ?_; clear hK K
    refine st_y ha58 rfl (y_assign ha58 rfl) ?_
    clear ha58 a58; intro a60 ha60
    refine wpList_nil ?_
    refine hK16 _ _ ?_; clear hK16; try clear K16
    refine wp_ret ?_
    try dsimp only [Exit.then, Exit.inBlock]
    refine (retCT (fn := Try.f44) ha60 m59 (i := 22) rfl rfl rfl rfl Try.underlying34 rfl sz34dn ?_)
    have m61 := m59.dat 23 rfl (m59.rd (i := 3) rfl); clear m59
    exact ⟨ne, hi, fl, ws, 28, _, _, rfl, by rw [doR, if_neg (by omega), if_pos (by omega), pruneR]; simp_all [reachR], m61.ren [(1, 1), (2, 2), (3, 3), (4, 4), (7, 23)] (by decide)⟩
   ·
    clear ha56
    try simp only [Q1x, Q2x, Q3x, Q4x, Q5x, Q6x, Q7x, Q8x, Q9x, Q0x, Qax, Qbx] at hb57
    refine wp_cond_false (ha57.ev (x := .tmp 16) rfl) ?_
    refine wp_skip ?_
    refine hK1 _ _ ?_; clear hK1; try clear K1
    refine wp_seq_k (fun K17 hK17 => ?_)
    refine wp_seq_k (fun K18 hK18 => ?_)
    refine wp_region_lit ?_
    refine st_y ha57 rfl (y_fieldAddr ha57 (off := 0) rfl Try.underlying25 rfl (s := 0) (by kernel_rfl) rfl) ?_
    clear ha57 a56; intro a62 ha62
    refine st_y ha62 rfl (y_loadB1 ha62 m6 (i := 21) rfl rfl rfl Try.underlying3 rfl) ?_
    clear ha62 a62; intro a63 ha63
    refine wpList_nil ?_
    refine hK18 _ _ ?_; clear hK18; try clear K18
    refine wp_block ?_
    refine wp_seq_k (fun K19 hK19 => ?_)
    refine wp_region_lit ?_
    refine st_y ha63 rfl (y_eql ha63 rfl rfl) ?_
    clear ha63 a63; intro a64 ha64
    refine st_y ha64 rfl (y_assign ha64 rfl) ?_
    clear ha64 a64; intro a65 ha65
    refine wpList_nil ?_
    refine hK19 _ _ ?_; clear hK19; try clear K19
    refine bool_cases ha65 (t := 21) rfl (fun hb66 ha66 => ?_) (fun hb66 ha66 => ?_)
    · exact absurd hb66 (by simp; omega)
    clear ha65 hb66
    refine wp_cond_false (ha66.ev (x := .tmp 21) rfl) ?_
    refine wp_seq_k (fun K20 hK20 => ?_)
    refine wp_region_lit ?_
    refine st_y ha66 rfl (y_eql ha66 rfl rfl) ?_
    clear ha66 a65; intro a67 ha67
    refine st_y ha67 rfl (y_assign ha67 rfl) ?_
    clear ha67 a67; intro a68 ha68
    refine wpList_nil ?_
    refine hK20 _ _ ?_; clear hK20; try clear K20
    refine bool_cases ha68 (t := 36) rfl (fun hb69 ha69 => ?_) (fun hb69 ha69 => ?_)
    rotate_left
    · exact absurd hb69 (by simp; omega)
    clear ha68 hb69
    refine wp_cond_true (ha69.ev (x := .tmp 36) rfl) ?_
    refine wp_seq_k (fun K21 hK21 => ?_)
    refine wp_seq_k (fun K22 hK22 => ?_)
    refine wp_region_lit ?_
    refine st_y ha69 rfl (y_fieldAddr ha69 (off := 7) rfl Try.underlying25 rfl (s := 0) (by kernel_rfl) rfl) ?_
    clear ha69 a68; intro a70 ha70
    refine st_y ha70 rfl (y_loadB1 ha70 m6 (i := 21) rfl rfl rfl Try.underlying2 rfl) ?_
    clear ha70 a70; intro a71 ha71
    refine st_y ha71 rfl (y_fieldAddr ha71 (off := 8) rfl Try.underlying34 rfl (s := 0) (by kernel_rfl) rfl) ?_
    clear ha71 a71; intro a72 ha72
    refine st_y ha72 rfl (y_loadB1 ha72 m6 (i := 20) rfl rfl rfl Try.underlying2 rfl) ?_
    clear ha72 a72; intro a73 ha73
    refine st_y ha73 rfl (y_lss ha73 rfl rfl) ?_
    clear ha73 a73; intro a74 ha74
    refine wpList_nil ?_
    refine hK22 _ _ ?_; clear hK22; try clear K22
    refine bool_cases ha74 (t := 42) rfl (fun hb75 ha75 => ?_) (fun hb75 ha75 => ?_)
    ·
     clear ha74
     try simp only [Q1x, Q2x, Q3x, Q4x, Q5x, Q6x, Q7x, Q8x, Q9x, Q0x, Qax, Qbx] at hb75
     refine wp_cond_true (ha75.ev (x := .tmp 42) rfl) ?_
     refine wp_seq_k (fun K23 hK23 => ?_)
     have ha76 : Has 197 [(2, _), (3, _), (4, _), (5, _), (10, _), (16, _), (19, _), (21, _), (36, _), (42, _)] a74 := ha75.only [2, 3, 4, 5, 10, 16, 19, 21, 36, 42]; clear ha75
     refine wp_region_lit ?_
     refine st_y ha76 rfl (y_loadBR ha76 m6 (i := 20) rfl rfl Try.underlying34 rfl sz34dn (by simp) (by dsimp only [List.drop, List.take] <;> rfl)) ?_
     clear ha76 a74; intro a77 ha77
     refine wpList_plain rfl (fun K hK => ?_)
     refine e_storeW ha77 m6 22 rfl rfl rfl rfl rfl sz34dn ?_
     clear m6; intro w78 m78 hB78
     clear hB78
     refine hK _ _ ?_; clear hK K
     refine st_y ha77 rfl (y_assign ha77 rfl) ?_
     clear ha77 a77; intro a79 ha79
     refine wpList_nil ?_
     refine hK23 _ _ ?_; clear hK23; try clear K23
     refine wp_ret ?_
     try dsimp only [Exit.then, Exit.inBlock]
     refine (retCT (fn := Try.f44) ha79 m78 (i := 22) rfl rfl rfl rfl Try.underlying34 rfl sz34dn ?_)
     have m80 := m78.dat 23 rfl (m78.rd (i := 3) rfl); clear m78
     exact ⟨ne, hi, fl, ws, 30, _, _, rfl, by rw [doR, if_neg (by omega), if_pos (by omega), pruneR]; rw [show reachR hi fl at0 (lowL ws.length pins) = 30 from by rw [reachR, if_neg (by simp_all), if_pos (by omega)]]; rfl, m80.ren [(1, 1), (2, 2), (3, 3), (4, 4), (7, 23)] (by decide)⟩
    ·
     clear ha74
     try simp only [Q1x, Q2x, Q3x, Q4x, Q5x, Q6x, Q7x, Q8x, Q9x, Q0x, Qax, Qbx] at hb75
     refine wp_cond_false (ha75.ev (x := .tmp 42) rfl) ?_
     refine wp_skip ?_
     refine hK21 _ _ ?_; clear hK21; try clear K21
     refine wp_seq_k (fun K24 hK24 => ?_)
     refine wp_seq_k (fun K25 hK25 => ?_)
     have ha81 : Has 197 [(2, _), (3, _), (4, _), (5, _), (10, _), (16, _), (19, _), (21, _), (36, _), (42, _)] a74 := ha75.only [2, 3, 4, 5, 10, 16, 19, 21, 36, 42]; clear ha75
     have m82 : MemOk _ _ [(1, _), (2, _), (3, _), (4, _), (20, _), (21, _), (22, _)] _ := m6.only [1, 2, 3, 4, 20, 21, 22]; clear m6
     refine region_m 5 (B := [(1, _), (2, _), (3, _), (4, _), (20, _), (21, _), (22, _)]) (m82.to ⟨il, il, il, il, il, il, il, trivial⟩) m82 (by kernel_rfl) (fun w83 mB83 m83 => ?_); clear m82 mB83
     refine dyn 0 ha81 rfl rfl (m83.to ⟨il, il, il, il, il, il, il, trivial⟩) (fun W => y_fieldAddr ha81 (off := 7) rfl Try.underlying25 rfl (s := 0) (by kernel_rfl) rfl) ?_
     clear ha81 a74; intro a84 ha84
     refine dh 1 ha84 rfl rfl (m83.to ⟨il, il, il, il, il, il, il, trivial⟩) (fun W hW => y_loadB1 ha84 hW (i := 21) rfl rfl rfl Try.underlying2 rfl) ?_
     clear ha84 a84; intro a85 ha85
     refine dh 2 ha85 rfl rfl (m83.to ⟨il, il, il, il, il, il, il, trivial⟩) (fun W hW => y_loadBR ha85 hW (i := 20) rfl rfl Try.underlying34 rfl sz34dn (by simp) (by dsimp only [List.drop, List.take] <;> rfl)) ?_
     clear ha85 a85; intro a86 ha86
     refine stepE_only 3 rfl (by kernel_rfl) rfl (fun K hK => ?_)
     refine e_call ha86 Try.func23 rfl rfl rfl rfl (rlow_any _ _ _ _ _ _ _ _ pins _ _ _ _ _ _ _ _ _ ((m83.rd (i := 2) rfl).any) hp) ?_
     rintro e w87 ⟨rfl, hb87⟩
     rw [List.length_map]
     have m88 := m83.later hb87
     clear m83
     clear hb87
     refine ⟨_, rfl, fun a89 ha89 => ?_⟩; clear ha86 a86
     refine hK _ _ (m88.to ⟨il, il, il, il, il, il, il, trivial⟩) ?_; clear hK K
     refine dyn 4 ha89 rfl rfl (m88.to ⟨il, il, il, il, il, il, il, trivial⟩) (fun W => y_gtr ha89 rfl rfl) ?_
     clear ha89 a89; intro a90 ha90
     refine wpAnyE_done (by kernel_rfl) ?_ _
     refine hK25 _ _ ?_; clear hK25; try clear K25
     refine bool_cases ha90 (t := 48) rfl (fun hb91 ha91 => ?_) (fun hb91 ha91 => ?_)
     ·
      clear ha90
      try simp only [Q1x, Q2x, Q3x, Q4x, Q5x, Q6x, Q7x, Q8x, Q9x, Q0x, Qax, Qbx] at hb91
      refine wp_cond_true (ha91.ev (x := .tmp 48) rfl) ?_
      refine wp_seq_k (fun K26 hK26 => ?_)
      refine wp_region_lit ?_
      refine st_y ha91 rfl (y_loadBR ha91 m88 (i := 20) rfl rfl Try.underlying34 rfl sz34dn (by simp) (by dsimp only [List.drop, List.take] <;> rfl)) ?_
      clear ha91 a90; intro a92 ha92
      refine wpList_plain rfl (fun K hK => ?_)
      refine e_storeW ha92 m88 22 rfl rfl rfl rfl rfl sz34dn ?_
      clear m88; intro w93 m93 hB93
      clear hB93
      refine hK _ _ ?_; clear hK K
      refine st_y ha92 rfl (y_assign ha92 rfl) ?_
      clear ha92 a92; intro a94 ha94
      refine wpList_nil ?_
      refine hK26 _ _ ?_; clear hK26; try clear K26
      refine wp_ret ?_
      try dsimp only [Exit.then, Exit.inBlock]
      refine (retCT (fn := Try.f44) ha94 m93 (i := 22) rfl rfl rfl rfl Try.underlying34 rfl sz34dn ?_)
      have m95 := m93.dat 23 rfl (m93.rd (i := 3) rfl); clear m93
      exact ⟨ne, hi, fl, ws, 31, _, _, rfl, by rw [doR, if_neg (by omega), if_pos (by omega), pruneR]; rw [show reachR hi fl at0 (lowL ws.length pins) = 31 from by rw [reachR, if_neg (by simp_all), if_neg (by omega), if_pos (by omega)]]; rfl, m95.ren [(1, 1), (2, 2), (3, 3), (4, 4), (7, 23)] (by decide)⟩
     ·
      clear ha90
      try simp only [Q1x, Q2x, Q3x, Q4x, Q5x, Q6x, Q7x, Q8x, Q9x, Q0x, Qax, Qbx] at hb91
      refine wp_cond_false (ha91.ev (x := .tmp 48) rfl) ?_
      refine wp_skip ?_
      refine hK24 _ _ ?_; clear hK24; try clear K24
      refine wp_region_lit ?_
      refine st_y ha91 rfl (y_fieldAddr ha91 (off := 7) rfl Try.underlying25 rfl (s := 0) (by kernel_rfl) rfl) ?_
      clear ha91 a90; intro a96 ha96
      refine st_y ha96 rfl (y_loadB1 ha96 m88 (i := 21) rfl rfl rfl Try.underlying2 rfl) ?_
      clear ha96 a96; intro a97 ha97
      refine st_y ha97 rfl (y_fieldAddr ha97 (off := 8) rfl Try.underlying34 rfl (s := 0) (by kernel_rfl) rfl) ?_
      clear ha97 a97; intro a98 ha98
      refine wpList_plain rfl (fun K hK => ?_)
      refine e_store1 ha98 m88 20 rfl rfl rfl rfl rfl sz2dn (by dsimp only [List.set] <;> rfl) ?_
      clear m88; intro w99 m99 hB99
      clear hB99
      refine hK _ _ ?_; clear hK K
      refine wpList_nil ?_
      refine hK17 _ _ ?_; clear hK17; try clear K17
      refine wp_seq_k (fun K27 hK27 => ?_)
      have ha100 : Has 197 [(2, _), (4, _), (5, _), (10, _), (16, _), (21, _), (36, _), (42, _), (48, _)] a98 := ha98.only [2, 4, 5, 10, 16, 21, 36, 42, 48]; clear ha98
      refine wp_region_lit ?_
      refine st_y ha100 rfl (y_loadBR ha100 m99 (i := 20) rfl rfl Try.underlying34 rfl sz34dn (by simp) (by dsimp only [List.drop, List.take] <;> rfl)) ?_
      clear ha100 a98; intro a101 ha101
      refine wpList_plain rfl (fun K hK => ?_)
      refine e_storeW ha101 m99 22 rfl rfl rfl rfl rfl sz34dn ?_
      clear m99; intro w102 m102 hB102
      clear hB102
      refine hK _ _ ?_; clear hK K
      refine st_y ha101 rfl (y_assign ha101 rfl) ?_
      clear ha101 a101; intro a103 ha103
      refine wpList_nil ?_
      refine hK27 _ _ ?_; clear hK27; try clear K27
      refine wp_ret ?_
      try dsimp only [Exit.then, Exit.inBlock]
      refine (retCT (fn := Try.f44) ha103 m102 (i := 22) rfl rfl rfl rfl Try.underlying34 rfl sz34dn ?_)
      have m104 := m102.dat 23 rfl (m102.rd (i := 3) rfl); clear m102
      exact ⟨ne, hi, at0, ws, 0, _, _, rfl, by rw [doR, if_neg (by omega), if_pos (by omega), pruneR]; rw [show reachR hi fl at0 (lowL ws.length pins) = 0 from by rw [reachR, if_neg (by simp_all), if_neg (by omega), if_neg (by omega)]]; rfl, m104.ren [(1, 1), (2, 2), (3, 3), (4, 4), (7, 23)] (by decide)⟩
  ·
   clear ha52
   try simp only [Q1x, Q2x, Q3x, Q4x, Q5x, Q6x, Q7x, Q8x, Q9x, Q0x, Qax, Qbx] at hb53
   refine wp_cond_false (ha53.ev (x := .tmp 10) rfl) ?_
   refine wp_seq_k (fun K28 hK28 => ?_)
   refine wp_region_lit ?_
   refine st_y ha53 rfl (y_eql ha53 rfl rfl) ?_
   clear ha53 a52; intro a105 ha105
   refine st_y ha105 rfl (y_assign ha105 rfl) ?_
   clear ha105 a105; intro a106 ha106
   refine wpList_nil ?_
   refine hK28 _ _ ?_; clear hK28; try clear K28
   refine bool_cases ha106 (t := 10) rfl (fun hb107 ha107 => ?_) (fun hb107 ha107 => ?_)
   · exact absurd hb107 (by simp; omega)
   clear ha106 hb107
   refine wp_cond_false (ha107.ev (x := .tmp 10) rfl) ?_
   have ha108 : Has 197 [(2, _), (3, _), (4, _), (5, _), (9, _), (10, _)] a106 := ha107.only [2, 3, 4, 5, 9, 10]; clear ha107
   refine wp_region_lit ?_
   refine st_y ha108 rfl (y_eql ha108 rfl rfl) ?_
   clear ha108 a106; intro a109 ha109
   refine st_y ha109 rfl (y_assign ha109 rfl) ?_
   clear ha109 a109; intro a110 ha110
   refine wpList_nil ?_
   refine hK3 _ _ ?_; clear hK3; try clear K3
   refine bool_cases ha110 (t := 10) rfl (fun hb111 ha111 => ?_) (fun hb111 ha111 => ?_)
   · exact absurd hb111 (by simp; omega)
   clear ha110 hb111
   refine wp_cond_false (ha111.ev (x := .tmp 10) rfl) ?_
   refine wp_skip ?_
   refine hK1 _ _ ?_; clear hK1; try clear K1
   refine wp_seq_k (fun K29 hK29 => ?_)
   refine wp_seq_k (fun K30 hK30 => ?_)
   refine wp_region_lit ?_
   refine st_y ha111 rfl (y_fieldAddr ha111 (off := 0) rfl Try.underlying25 rfl (s := 0) (by kernel_rfl) rfl) ?_
   clear ha111 a110; intro a112 ha112
   refine st_y ha112 rfl (y_loadB1 ha112 m6 (i := 21) rfl rfl rfl Try.underlying3 rfl) ?_
   clear ha112 a112; intro a113 ha113
   refine wpList_nil ?_
   refine hK30 _ _ ?_; clear hK30; try clear K30
   refine wp_block ?_
   refine wp_seq_k (fun K31 hK31 => ?_)
   refine wp_region_lit ?_
   refine st_y ha113 rfl (y_eql ha113 rfl rfl) ?_
   clear ha113 a113; intro a114 ha114
   refine st_y ha114 rfl (y_assign ha114 rfl) ?_
   clear ha114 a114; intro a115 ha115
   refine wpList_nil ?_
   refine hK31 _ _ ?_; clear hK31; try clear K31
   refine bool_cases ha115 (t := 21) rfl (fun hb116 ha116 => ?_) (fun hb116 ha116 => ?_)
   · exact absurd hb116 (by simp; omega)
   clear ha115 hb116
   refine wp_cond_false (ha116.ev (x := .tmp 21) rfl) ?_
   refine wp_seq_k (fun K32 hK32 => ?_)
   refine wp_region_lit ?_
   refine st_y ha116 rfl (y_eql ha116 rfl rfl) ?_
   clear ha116 a115; intro a117 ha117
   refine st_y ha117 rfl (y_assign ha117 rfl) ?_
   clear ha117 a117; intro a118 ha118
   refine wpList_nil ?_
   refine hK32 _ _ ?_; clear hK32; try clear K32
   refine bool_cases ha118 (t := 36) rfl (fun hb119 ha119 => ?_) (fun hb119 ha119 => ?_)
   · exact absurd hb119 (by simp; omega)
   clear ha118 hb119
   refine wp_cond_false (ha119.ev (x := .tmp 36) rfl) ?_
   refine wp_seq_k (fun K33 hK33 => ?_)
   refine wp_region_lit ?_
   refine st_y ha119 rfl (y_eql ha119 rfl rfl) ?_
   clear ha119 a118; intro a120 ha120
   refine st_y ha120 rfl (y_assign ha120 rfl) ?_
   clear ha120 a120; intro a121 ha121
   refine wpList_nil ?_
   refine hK33 _ _ ?_; clear hK33; try clear K33
   refine bool_cases ha121 (t := 53) rfl (fun hb122 ha122 => ?_) (fun hb122 ha122 => ?_)
   · exact absurd hb122 (by simp; omega)
   clear ha121 hb122
   refine wp_cond_false (ha122.ev (x := .tmp 53) rfl) ?_
   refine wp_seq_k (fun K34 hK34 => ?_)
   have ha123 : Has 197 [(2, _), (3, _), (4, _), (5, _), (10, _), (19, _), (21, _), (36, _)] a121 := ha122.only [2, 3, 4, 5, 10, 19, 21, 36]; clear ha122
   refine wp_region_lit ?_
   refine st_y ha123 rfl (y_eql ha123 rfl rfl) ?_
   clear ha123 a121; intro a124 ha124
   refine st_y ha124 rfl (y_assign ha124 rfl) ?_
   clear ha124 a124; intro a125 ha125
   refine wpList_nil ?_
   refine hK34 _ _ ?_; clear hK34; try clear K34
   refine bool_cases ha125 (t := 99) rfl (fun hb126 ha126 => ?_) (fun hb126 ha126 => ?_)
   · exact absurd hb126 (by simp; omega)
   clear ha125 hb126
   refine wp_cond_false (ha126.ev (x := .tmp 99) rfl) ?_
   refine wp_seq_k (fun K35 hK35 => ?_)
   refine wp_region_lit ?_
   refine st_y ha126 rfl (y_eql ha126 rfl rfl) ?_
   clear ha126 a125; intro a127 ha127
   refine st_y ha127 rfl (y_assign ha127 rfl) ?_
   clear ha127 a127; intro a128 ha128
   refine wpList_nil ?_
   refine hK35 _ _ ?_; clear hK35; try clear K35
   refine bool_cases ha128 (t := 130) rfl (fun hb129 ha129 => ?_) (fun hb129 ha129 => ?_)
   ·
    clear ha128
    try simp only [Q1x, Q2x, Q3x, Q4x, Q5x, Q6x, Q7x, Q8x, Q9x, Q0x, Qax, Qbx] at hb129
    refine wp_cond_true (ha129.ev (x := .tmp 130) rfl) ?_
    refine wp_seq_k (fun K36 hK36 => ?_)
    refine wp_seq_k (fun K37 hK37 => ?_)
    refine wp_region_lit ?_
    refine st_y ha129 rfl (y_fieldAddr ha129 (off := 7) rfl Try.underlying34 rfl (s := 0) (by kernel_rfl) rfl) ?_
    clear ha129 a128; intro a130 ha130
    refine st_y ha130 rfl (y_loadB1 ha130 m6 (i := 20) rfl rfl rfl Try.underlying4 rfl) ?_
    clear ha130 a130; intro a131 ha131
    refine st_y ha131 rfl (y_not ha131 rfl) ?_
    clear ha131 a131; intro a132 ha132
    refine wpList_nil ?_
    refine hK37 _ _ ?_; clear hK37; try clear K37
    refine bool_cases ha132 (t := 134) rfl (fun hb133 ha133 => ?_) (fun hb133 ha133 => ?_)
    ·
     clear ha132
     try simp only [Q1x, Q2x, Q3x, Q4x, Q5x, Q6x, Q7x, Q8x, Q9x, Q0x, Qax, Qbx] at hb133
     refine wp_cond_true (ha133.ev (x := .tmp 134) rfl) ?_
     refine wp_seq_k (fun K38 hK38 => ?_)
     refine wp_region_lit ?_
     refine st_y ha133 rfl (y_loadBR ha133 m6 (i := 20) rfl rfl Try.underlying34 rfl sz34dn (by simp) (by dsimp only [List.drop, List.take] <;> rfl)) ?_
     clear ha133 a132; intro a134 ha134
     refine wpList_plain rfl (fun K hK => ?_)
     refine e_storeW ha134 m6 22 rfl rfl rfl rfl rfl sz34dn ?_
     clear m6; intro w135 m135 hB135
     clear hB135
     refine hK _ _ ?_; clear hK K
     refine st_y ha134 rfl (y_assign ha134 rfl) ?_
     clear ha134 a134; intro a136 ha136
     refine wpList_nil ?_
     refine hK38 _ _ ?_; clear hK38; try clear K38
     refine wp_ret ?_
     try dsimp only [Exit.then, Exit.inBlock]
     refine (retCT (fn := Try.f44) ha136 m135 (i := 22) rfl rfl rfl rfl Try.underlying34 rfl sz34dn ?_)
     have m137 := m135.dat 23 rfl (m135.rd (i := 3) rfl); clear m135
     exact ⟨ne, hi, fl, ws, 33, _, _, rfl, by rw [doR, if_neg (by omega), if_neg (by omega), if_pos (by omega), takeR, if_pos (by simp_all)], m137.ren [(1, 1), (2, 2), (3, 3), (4, 4), (7, 23)] (by decide)⟩
    ·
     clear ha132
     try simp only [Q1x, Q2x, Q3x, Q4x, Q5x, Q6x, Q7x, Q8x, Q9x, Q0x, Qax, Qbx] at hb133
     refine wp_cond_false (ha133.ev (x := .tmp 134) rfl) ?_
     refine wp_skip ?_
     refine hK36 _ _ ?_; clear hK36; try clear K36
     refine wp_seq_k (fun K39 hK39 => ?_)
     refine wp_seq_k (fun K40 hK40 => ?_)
     refine wp_region_lit ?_
     refine st_y ha133 rfl (y_fieldAddr ha133 (off := 8) rfl Try.underlying25 rfl (s := 0) (by kernel_rfl) rfl) ?_
     clear ha133 a132; intro a138 ha138
     refine st_y ha138 rfl (y_loadB1 ha138 m6 (i := 21) rfl rfl rfl Try.underlying3 rfl) ?_
     clear ha138 a138; intro a139 ha139
     refine st_y ha139 rfl (y_geq ha139 rfl rfl) ?_
     clear ha139 a139; intro a140 ha140
     refine st_y ha140 rfl (y_move ha140 rfl) ?_
     clear ha140 a140; intro a141 ha141
     refine bool_cases ha141 (t := 139) rfl (fun hb142 ha142 => ?_) (fun hb142 ha142 => ?_)
     ·
      clear ha141
      try simp only [Q1x, Q2x, Q3x, Q4x, Q5x, Q6x, Q7x, Q8x, Q9x, Q0x, Qax, Qbx] at hb142
      refine st_g ha142 rfl rfl rfl rfl (y_fieldAddr ha142 (off := 8) rfl Try.underlying25 rfl (s := 0) (by kernel_rfl) rfl) ?_
      clear ha142 a141; intro a143 ha143
      refine st_g ha143 rfl rfl rfl rfl (y_loadB1 ha143 m6 (i := 21) rfl rfl rfl Try.underlying3 rfl) ?_
      clear ha143 a143; intro a144 ha144
      refine st_g ha144 rfl rfl rfl rfl (y_fieldAddr ha144 (off := 6) rfl Try.underlying34 rfl (s := 0) (by kernel_rfl) rfl) ?_
      clear ha144 a144; intro a145 ha145
      refine st_g ha145 rfl rfl rfl rfl (y_loadB1 ha145 m6 (i := 20) rfl rfl rfl Try.underlying3 rfl) ?_
      clear ha145 a145; intro a146 ha146
      refine st_g ha146 rfl rfl rfl rfl (y_lss ha146 rfl rfl) ?_
      clear ha146 a146; intro a147 ha147
      refine st_y ha147 rfl (y_pickT ha147 rfl rfl) ?_
      clear ha147 a147; intro a148 ha148
      refine wpList_nil ?_
      refine hK40 _ _ ?_; clear hK40; try clear K40
      refine bool_cases ha148 (t := 145) rfl (fun hb149 ha149 => ?_) (fun hb149 ha149 => ?_)
      ·
       clear ha148
       try simp only [Q1x, Q2x, Q3x, Q4x, Q5x, Q6x, Q7x, Q8x, Q9x, Q0x, Qax, Qbx] at hb149
       refine wp_cond_true (ha149.ev (x := .tmp 145) rfl) ?_
       refine wp_seq_k (fun K41 hK41 => ?_)
       have ha150 : Has 197 [(2, _), (3, _), (4, _), (5, _), (10, _), (19, _), (21, _), (36, _), (130, _), (134, _), (139, _), (145, _)] a148 := ha149.only [2, 3, 4, 5, 10, 19, 21, 36, 130, 134, 139, 145]; clear ha149
       refine wp_region_lit ?_
       refine st_y ha150 rfl (y_loadBR ha150 m6 (i := 20) rfl rfl Try.underlying34 rfl sz34dn (by simp) (by dsimp only [List.drop, List.take] <;> rfl)) ?_
       clear ha150 a148; intro a151 ha151
       refine wpList_plain rfl (fun K hK => ?_)
       refine e_storeW ha151 m6 22 rfl rfl rfl rfl rfl sz34dn ?_
       clear m6; intro w152 m152 hB152
       clear hB152
       refine hK _ _ ?_; clear hK K
       refine st_y ha151 rfl (y_assign ha151 rfl) ?_
       clear ha151 a151; intro a153 ha153
       refine wpList_nil ?_
       refine hK41 _ _ ?_; clear hK41; try clear K41
       refine wp_ret ?_
       try dsimp only [Exit.then, Exit.inBlock]
       refine (retCT (fn := Try.f44) ha153 m152 (i := 22) rfl rfl rfl rfl Try.underlying34 rfl sz34dn ?_)
       have m154 := m152.dat 23 rfl (m152.rd (i := 3) rfl); clear m152
       exact ⟨ne, hi, fl, ws, 0, _, _, rfl, by rw [doR, if_neg (by omega), if_neg (by omega), if_pos (by omega), takeR, if_neg (by simp_all), if_pos (by omega)], m154.ren [(1, 1), (2, 2), (3, 3), (4, 4), (7, 23)] (by decide)⟩
      ·
       clear ha148
       try simp only [Q1x, Q2x, Q3x, Q4x, Q5x, Q6x, Q7x, Q8x, Q9x, Q0x, Qax, Qbx] at hb149
       refine wp_cond_false (ha149.ev (x := .tmp 145) rfl) ?_
       refine wp_skip ?_
       refine hK39 _ _ ?_; clear hK39; try clear K39
       refine wp_seq_k (fun K42 hK42 => ?_)
       refine wp_seq_k (fun K43 hK43 => ?_)
       have ha155 : Has 197 [(2, _), (3, _), (4, _), (5, _), (10, _), (19, _), (21, _), (36, _), (130, _), (134, _), (139, _), (145, _)] a148 := ha149.only [2, 3, 4, 5, 10, 19, 21, 36, 130, 134, 139, 145]; clear ha149
       refine wp_region_lit ?_
       refine st_y ha155 rfl (y_fieldAddr ha155 (off := 8) rfl Try.underlying25 rfl (s := 0) (by kernel_rfl) rfl) ?_
       clear ha155 a148; intro a156 ha156
       refine st_y ha156 rfl (y_loadB1 ha156 m6 (i := 21) rfl rfl rfl Try.underlying3 rfl) ?_
       clear ha156 a156; intro a157 ha157
       refine st_y ha157 rfl (y_fieldAddr ha157 (off := 6) rfl Try.underlying34 rfl (s := 0) (by kernel_rfl) rfl) ?_
       clear ha157 a157; intro a158 ha158
       refine st_y ha158 rfl (y_loadB1 ha158 m6 (i := 20) rfl rfl rfl Try.underlying3 rfl) ?_
       clear ha158 a158; intro a159 ha159
       refine st_y ha159 rfl (y_neq ha159 rfl rfl) ?_
       clear ha159 a159; intro a160 ha160
       refine st_y ha160 rfl (y_move ha160 rfl) ?_
       clear ha160 a160; intro a161 ha161
       refine bool_cases ha161 (t := 152) rfl (fun hb162 ha162 => ?_) (fun hb162 ha162 => ?_)
       ·
        clear ha161
        try simp only [Q1x, Q2x, Q3x, Q4x, Q5x, Q6x, Q7x, Q8x, Q9x, Q0x, Qax, Qbx] at hb162
        refine st_skip ha162 rfl rfl rfl rfl ?_
        clear ha162 a161; intro a163 ha163
        refine st_skip ha163 rfl rfl rfl rfl ?_
        clear ha163 a163; intro a164 ha164
        refine st_skip ha164 rfl rfl rfl rfl ?_
        clear ha164 a164; intro a165 ha165
        refine st_skip ha165 rfl rfl rfl rfl ?_
        clear ha165 a165; intro a166 ha166
        refine st_skip ha166 rfl rfl rfl rfl ?_
        clear ha166 a166; intro a167 ha167
        refine st_y ha167 rfl (y_pickT ha167 rfl rfl) ?_
        clear ha167 a167; intro a168 ha168
        refine wpList_nil ?_
        refine hK43 _ _ ?_; clear hK43; try clear K43
        refine wp_cond_true (ha168.ev (x := .tmp 158) rfl) ?_
        refine wp_seq_k (fun K44 hK44 => ?_)
        have ha169 : Has 197 [(2, _), (3, _), (4, _), (5, _), (10, _), (19, _), (21, _), (36, _), (130, _), (134, _), (139, _), (145, _), (152, _), (158, _)] a168 := ha168.only [2, 3, 4, 5, 10, 19, 21, 36, 130, 134, 139, 145, 152, 158]; clear ha168
        refine wp_region_lit ?_
        refine st_y ha169 rfl (y_loadBR ha169 m6 (i := 20) rfl rfl Try.underlying34 rfl sz34dn (by simp) (by dsimp only [List.drop, List.take] <;> rfl)) ?_
        clear ha169 a168; intro a170 ha170
        refine wpList_plain rfl (fun K hK => ?_)
        refine e_storeW ha170 m6 22 rfl rfl rfl rfl rfl sz34dn ?_
        clear m6; intro w171 m171 hB171
        clear hB171
        refine hK _ _ ?_; clear hK K
        refine st_y ha170 rfl (y_assign ha170 rfl) ?_
        clear ha170 a170; intro a172 ha172
        refine wpList_nil ?_
        refine hK44 _ _ ?_; clear hK44; try clear K44
        refine wp_ret ?_
        try dsimp only [Exit.then, Exit.inBlock]
        refine (retCT (fn := Try.f44) ha172 m171 (i := 22) rfl rfl rfl rfl Try.underlying34 rfl sz34dn ?_)
        have m173 := m171.dat 23 rfl (m171.rd (i := 3) rfl); clear m171
        exact ⟨ne, hi, fl, ws, 33, _, _, rfl, by rw [doR, if_neg (by omega), if_neg (by omega), if_pos (by omega), takeR, if_neg (by simp_all), if_neg (by omega), if_pos (by omega)], m173.ren [(1, 1), (2, 2), (3, 3), (4, 4), (7, 23)] (by decide)⟩
       ·
        clear ha161
        try simp only [Q1x, Q2x, Q3x, Q4x, Q5x, Q6x, Q7x, Q8x, Q9x, Q0x, Qax, Qbx] at hb162
        refine st_g ha162 rfl rfl rfl rfl (y_fieldAddr ha162 (off := 6) rfl Try.underlying34 rfl (s := 0) (by kernel_rfl) rfl) ?_
        clear ha162 a161; intro a174 ha174
        refine st_g ha174 rfl rfl rfl rfl (y_loadB1 ha174 m6 (i := 20) rfl rfl rfl Try.underlying3 rfl) ?_
        clear ha174 a174; intro a175 ha175
        refine st_g ha175 rfl rfl rfl rfl (y_fieldAddr ha175 (off := 5) rfl Try.underlying34 rfl (s := 0) (by kernel_rfl) rfl) ?_
        clear ha175 a175; intro a176 ha176
        refine st_g ha176 rfl rfl rfl rfl (y_loadB1 ha176 m6 (i := 20) rfl rfl rfl Try.underlying3 rfl) ?_
        clear ha176 a176; intro a177 ha177
        refine st_g ha177 rfl rfl rfl rfl (y_eql ha177 rfl rfl) ?_
        clear ha177 a177; intro a178 ha178
        refine st_y ha178 rfl (y_pickF ha178 rfl rfl) ?_
        clear ha178 a178; intro a179 ha179
        refine wpList_nil ?_
        refine hK43 _ _ ?_; clear hK43; try clear K43
        refine bool_cases ha179 (t := 158) rfl (fun hb180 ha180 => ?_) (fun hb180 ha180 => ?_)
        ·
         clear ha179
         try simp only [Q1x, Q2x, Q3x, Q4x, Q5x, Q6x, Q7x, Q8x, Q9x, Q0x, Qax, Qbx] at hb180
         refine wp_cond_true (ha180.ev (x := .tmp 158) rfl) ?_
         refine wp_seq_k (fun K45 hK45 => ?_)
         have ha181 : Has 197 [(2, _), (3, _), (4, _), (5, _), (10, _), (19, _), (21, _), (36, _), (130, _), (134, _), (139, _), (145, _), (152, _), (158, _)] a179 := ha180.only [2, 3, 4, 5, 10, 19, 21, 36, 130, 134, 139, 145, 152, 158]; clear ha180
         refine wp_region_lit ?_
         refine st_y ha181 rfl (y_loadBR ha181 m6 (i := 20) rfl rfl Try.underlying34 rfl sz34dn (by simp) (by dsimp only [List.drop, List.take] <;> rfl)) ?_
         clear ha181 a179; intro a182 ha182
         refine wpList_plain rfl (fun K hK => ?_)
         refine e_storeW ha182 m6 22 rfl rfl rfl rfl rfl sz34dn ?_
         clear m6; intro w183 m183 hB183
         clear hB183
         refine hK _ _ ?_; clear hK K
         refine st_y ha182 rfl (y_assign ha182 rfl) ?_
         clear ha182 a182; intro a184 ha184
         refine wpList_nil ?_
         refine hK45 _ _ ?_; clear hK45; try clear K45
         refine wp_ret ?_
         try dsimp only [Exit.then, Exit.inBlock]
         refine (retCT (fn := Try.f44) ha184 m183 (i := 22) rfl rfl rfl rfl Try.underlying34 rfl sz34dn ?_)
         have m185 := m183.dat 23 rfl (m183.rd (i := 3) rfl); clear m183
         exact ⟨ne, hi, fl, ws, 33, _, _, rfl, by rw [doR, if_neg (by omega), if_neg (by omega), if_pos (by omega), takeR, if_neg (by simp_all), if_neg (by omega), if_pos (by omega)], m185.ren [(1, 1), (2, 2), (3, 3), (4, 4), (7, 23)] (by decide)⟩
        ·
         clear ha179
         try simp only [Q1x, Q2x, Q3x, Q4x, Q5x, Q6x, Q7x, Q8x, Q9x, Q0x, Qax, Qbx] at hb180
         refine wp_cond_false (ha180.ev (x := .tmp 158) rfl) ?_
         refine wp_skip ?_
         refine hK42 _ _ ?_; clear hK42; try clear K42
         refine wp_seq_k (fun K46 hK46 => ?_)
         refine wp_seq_k (fun K47 hK47 => ?_)
         have ha186 : Has 197 [(2, _), (3, _), (4, _), (5, _), (10, _), (19, _), (21, _), (36, _), (130, _), (134, _), (139, _), (145, _), (152, _), (158, _)] a179 := ha180.only [2, 3, 4, 5, 10, 19, 21, 36, 130, 134, 139, 145, 152, 158]; clear ha180
         refine wp_region_lit ?_
         refine st_y ha186 rfl (y_fieldAddr ha186 (off := 1) rfl Try.underlying34 rfl (s := 0) (by kernel_rfl) rfl) ?_
         clear ha186 a179; intro a187 ha187
         refine st_y ha187 rfl (y_loadB1 ha187 m6 (i := 20) rfl rfl rfl Try.underlying3 rfl) ?_
         clear ha187 a187; intro a188 ha188
         refine st_y ha188 rfl (y_fieldAddr ha188 (off := 2) rfl Try.underlying34 rfl (s := 0) (by kernel_rfl) rfl) ?_
         clear ha188 a188; intro a189 ha189
         refine st_y ha189 rfl (y_loadB1 ha189 m6 (i := 20) rfl rfl rfl Try.underlying3 rfl) ?_
         clear ha189 a189; intro a190 ha190
         refine st_y ha190 rfl (y_fieldAddr ha190 (off := 9) rfl Try.underlying25 rfl (s := 0) (by kernel_rfl) rfl) ?_
         clear ha190 a190; intro a191 ha191
         refine st_y ha191 rfl (y_loadB1 ha191 m6 (i := 21) rfl rfl rfl Try.underlying23 rfl) ?_
         clear ha191 a191; intro a192 ha192
         refine wpList_plain rfl (fun K hK => ?_)
         refine e_call ha192 Try.func29 rfl rfl rfl rfl (ritems_any _ _ items _ _ _ _ ((m6.rd (i := 4) rfl).any) hil) ?_
         rintro e w193 ⟨ib, rfl, hib, hb193⟩
         have m194 := m6.later hb193
         clear m6
         clear hb193
         refine ⟨_, rfl, fun a195 ha195 => ?_⟩; clear ha192 a192
         refine hK _ _ ?_; clear hK K
         refine st_y ha195 rfl (y_not ha195 rfl) ?_
         clear ha195 a195; intro a196 ha196
         refine wpList_nil ?_
         refine hK47 _ _ ?_; clear hK47; try clear K47
         refine bool_cases ha196 (t := 167) rfl (fun hb197 ha197 => ?_) (fun hb197 ha197 => ?_)
         ·
          clear ha196
          try simp only [Q1x, Q2x, Q3x, Q4x, Q5x, Q6x, Q7x, Q8x, Q9x, Q0x, Qax, Qbx] at hb197
          refine wp_cond_true (ha197.ev (x := .tmp 167) rfl) ?_
          refine wp_seq_k (fun K48 hK48 => ?_)
          have ha198 : Has 197 [(2, _), (3, _), (4, _), (5, _), (10, _), (19, _), (21, _), (36, _), (130, _), (134, _), (139, _), (145, _), (152, _), (158, _), (167, _)] a196 := ha197.only [2, 3, 4, 5, 10, 19, 21, 36, 130, 134, 139, 145, 152, 158, 167]; clear ha197
          refine wp_region_lit ?_
          refine st_y ha198 rfl (y_loadBR ha198 m194 (i := 20) rfl rfl Try.underlying34 rfl sz34dn (by simp) (by dsimp only [List.drop, List.take] <;> rfl)) ?_
          clear ha198 a196; intro a199 ha199
          refine wpList_plain rfl (fun K hK => ?_)
          refine e_storeW ha199 m194 22 rfl rfl rfl rfl rfl sz34dn ?_
          clear m194; intro w200 m200 hB200
          clear hB200
          refine hK _ _ ?_; clear hK K
          refine st_y ha199 rfl (y_assign ha199 rfl) ?_
          clear ha199 a199; intro a201 ha201
          refine wpList_nil ?_
          refine hK48 _ _ ?_; clear hK48; try clear K48
          refine wp_ret ?_
          try dsimp only [Exit.then, Exit.inBlock]
          refine (retCT (fn := Try.f44) ha201 m200 (i := 22) rfl rfl rfl rfl Try.underlying34 rfl sz34dn ?_)
          have m202 := m200.dat 23 rfl (m200.rd (i := 3) rfl); clear m200
          exact ⟨ne, hi, fl, ws, 23, _, _, rfl, by rw [doR, if_neg (by omega), if_neg (by omega), if_pos (by omega), takeR, if_neg (by simp_all), if_neg (by omega), if_neg (by omega), show wrR bl sz ws items = (ws, 23) from by rw [wrR, if_neg (fun h => by have h9 := hib.2 h; simp_all)]]; rfl, m202.ren [(1, 1), (2, 2), (3, 3), (4, 4), (7, 23)] (by decide)⟩
         ·
          clear ha196
          try simp only [Q1x, Q2x, Q3x, Q4x, Q5x, Q6x, Q7x, Q8x, Q9x, Q0x, Qax, Qbx] at hb197
          refine wp_cond_false (ha197.ev (x := .tmp 167) rfl) ?_
          refine wp_skip ?_
          refine hK46 _ _ ?_; clear hK46; try clear K46
          refine wp_seq_k (fun K49 hK49 => ?_)
          have ha203 : Has 197 [(2, _), (3, _), (4, _), (5, _), (10, _), (19, _), (21, _), (36, _), (130, _), (134, _), (139, _), (145, _), (152, _), (158, _), (167, _)] a196 := ha197.only [2, 3, 4, 5, 10, 19, 21, 36, 130, 134, 139, 145, 152, 158, 167]; clear ha197
          refine wp_region_lit ?_
          refine st_y ha203 rfl (y_loadBR ha203 m194 (i := 20) rfl rfl Try.underlying34 rfl sz34dn (by simp) (by dsimp only [List.drop, List.take] <;> rfl)) ?_
          clear ha203 a196; intro a204 ha204
          refine st_y ha204 rfl (y_fieldAddr ha204 (off := 9) rfl Try.underlying25 rfl (s := 0) (by kernel_rfl) rfl) ?_
          clear ha204 a204; intro a205 ha205
          refine st_y ha205 rfl (y_loadB1 ha205 m194 (i := 21) rfl rfl rfl Try.underlying23 rfl) ?_
          clear ha205 a205; intro a206 ha206
          refine wpList_plain rfl (fun K hK => ?_)
          refine e_call ha206 Try.func65 rfl rfl rfl rfl (rwrite_fr _ _ _ _ _ _ _ _ _ place pins ws items _ _ _ _ _ _ _ _ _ hl hil hio (m194.into [(1, 1), (2, 2), (3, 3), (4, 4)] (by decide) rfl)) ?_
          rintro e w207 ⟨p207, c207, rfl, hm207⟩
          have mx207 := m194.back hm207 [(1, 1), (2, 2), (3, 3), (4, 4), (23, 7)] (by decide); clear hm207 m194
          have m207 : MemOk _ _ [(1, _), (2, _), (3, _), (4, _), (23, _), (20, _), (21, _), (22, _)] _ := mx207.only [1, 2, 3, 4, 23, 20, 21, 22]; clear mx207
          refine ⟨_, rfl, fun a208 ha208 => ?_⟩; clear ha206 a206
          refine hK _ _ ?_; clear hK K
          refine wpList_plain rfl (fun K hK => ?_)
          refine e_storeW ha208 m207 20 rfl rfl rfl rfl rfl sz34dn ?_
          clear m207; intro w209 m209 hB209
          clear hB209
          refine hK _ _ ?_; clear hK K
          refine wpList_nil ?_
          refine hK49 _ _ ?_; clear hK49; try clear K49
          refine wp_region_lit ?_
          refine st_y ha208 rfl (y_fieldAddr ha208 (off := 6) rfl Try.underlying34 rfl (s := 0) (by kernel_rfl) rfl) ?_
          clear ha208 a208; intro a210 ha210
          refine st_y ha210 rfl (y_loadB1 ha210 m209 (i := 20) rfl rfl rfl Try.underlying3 rfl) ?_
          clear ha210 a210; intro a211 ha211
          refine st_y ha211 rfl (y_add ha211 rfl rfl (r := ne + 1) (IntWalk.i64_in _ (by omega))) ?_
          clear ha211 a211; intro a212 ha212
          refine st_y ha212 rfl (y_fieldAddr ha212 (off := 6) rfl Try.underlying34 rfl (s := 0) (by kernel_rfl) rfl) ?_
          clear ha212 a212; intro a213 ha213
          refine wpList_plain rfl (fun K hK => ?_)
          refine e_store1 ha213 m209 20 rfl rfl rfl rfl rfl sz3dn (by dsimp only [List.set] <;> rfl) ?_
          clear m209; intro w214 m214 hB214
          clear hB214
          refine hK _ _ ?_; clear hK K
          refine wpList_nil ?_
          refine hK29 _ _ ?_; clear hK29; try clear K29
          refine wp_seq_k (fun K50 hK50 => ?_)
          have ha215 : Has 197 [(2, _), (4, _), (5, _), (10, _), (21, _), (36, _), (130, _), (134, _), (139, _), (145, _), (152, _), (158, _), (167, _)] a213 := ha213.only [2, 4, 5, 10, 21, 36, 130, 134, 139, 145, 152, 158, 167]; clear ha213
          refine wp_region_lit ?_
          refine st_y ha215 rfl (y_loadBR ha215 m214 (i := 20) rfl rfl Try.underlying34 rfl sz34dn (by simp) (by dsimp only [List.drop, List.take] <;> rfl)) ?_
          clear ha215 a213; intro a216 ha216
          refine wpList_plain rfl (fun K hK => ?_)
          refine e_storeW ha216 m214 22 rfl rfl rfl rfl rfl sz34dn ?_
          clear m214; intro w217 m217 hB217
          clear hB217
          refine hK _ _ ?_; clear hK K
          refine st_y ha216 rfl (y_assign ha216 rfl) ?_
          clear ha216 a216; intro a218 ha218
          refine wpList_nil ?_
          refine hK50 _ _ ?_; clear hK50; try clear K50
          refine wp_ret ?_
          try dsimp only [Exit.then, Exit.inBlock]
          refine (retCT (fn := Try.f44) ha218 m217 (i := 22) rfl rfl rfl rfl Try.underlying34 rfl sz34dn ?_)
          exact ⟨(ne + 1), hi, fl, (ws ++ [((ws.length : Int) + 1, items)]), 0, _, _, rfl, by rw [doR, if_neg (by omega), if_neg (by omega), if_pos (by omega), takeR, if_neg (by simp_all), if_neg (by omega), if_neg (by omega), show wrR bl sz ws items = ((ws ++ [((ws.length : Int) + 1, items)]), 0) from by rw [wrR, if_pos (hib.1 (by simp_all))]]; rfl, m217.ren [(1, 1), (2, 2), (3, 3), (4, 4), (7, 23)] (by decide)⟩
     ·
      clear ha141
      try simp only [Q1x, Q2x, Q3x, Q4x, Q5x, Q6x, Q7x, Q8x, Q9x, Q0x, Qax, Qbx] at hb142
      refine st_skip ha142 rfl rfl rfl rfl ?_
      clear ha142 a141; intro a219 ha219
      refine st_skip ha219 rfl rfl rfl rfl ?_
      clear ha219 a219; intro a220 ha220
      refine st_skip ha220 rfl rfl rfl rfl ?_
      clear ha220 a220; intro a221 ha221
      refine st_skip ha221 rfl rfl rfl rfl ?_
      clear ha221 a221; intro a222 ha222
      refine st_skip ha222 rfl rfl rfl rfl ?_
      clear ha222 a222; intro a223 ha223
      refine st_y ha223 rfl (y_pickF ha223 rfl rfl) ?_
      clear ha223 a223; intro a224 ha224
      refine wpList_nil ?_
      refine hK40 _ _ ?_; clear hK40; try clear K40
      refine wp_cond_false (ha224.ev (x := .tmp 145) rfl) ?_
      refine wp_skip ?_
      refine hK39 _ _ ?_; clear hK39; try clear K39
      refine wp_seq_k (fun K51 hK51 => ?_)
      refine wp_seq_k (fun K52 hK52 => ?_)
      have ha225 : Has 197 [(2, _), (3, _), (4, _), (5, _), (10, _), (19, _), (21, _), (36, _), (130, _), (134, _), (139, _), (145, _)] a224 := ha224.only [2, 3, 4, 5, 10, 19, 21, 36, 130, 134, 139, 145]; clear ha224
      refine wp_region_lit ?_
      refine st_y ha225 rfl (y_fieldAddr ha225 (off := 8) rfl Try.underlying25 rfl (s := 0) (by kernel_rfl) rfl) ?_
      clear ha225 a224; intro a226 ha226
      refine st_y ha226 rfl (y_loadB1 ha226 m6 (i := 21) rfl rfl rfl Try.underlying3 rfl) ?_
      clear ha226 a226; intro a227 ha227
      refine st_y ha227 rfl (y_fieldAddr ha227 (off := 6) rfl Try.underlying34 rfl (s := 0) (by kernel_rfl) rfl) ?_
      clear ha227 a227; intro a228 ha228
      refine st_y ha228 rfl (y_loadB1 ha228 m6 (i := 20) rfl rfl rfl Try.underlying3 rfl) ?_
      clear ha228 a228; intro a229 ha229
      refine st_y ha229 rfl (y_neq ha229 rfl rfl) ?_
      clear ha229 a229; intro a230 ha230
      refine st_y ha230 rfl (y_move ha230 rfl) ?_
      clear ha230 a230; intro a231 ha231
      refine bool_cases ha231 (t := 152) rfl (fun hb232 ha232 => ?_) (fun hb232 ha232 => ?_)
      ·
       clear ha231
       try simp only [Q1x, Q2x, Q3x, Q4x, Q5x, Q6x, Q7x, Q8x, Q9x, Q0x, Qax, Qbx] at hb232
       refine st_skip ha232 rfl rfl rfl rfl ?_
       clear ha232 a231; intro a233 ha233
       refine st_skip ha233 rfl rfl rfl rfl ?_
       clear ha233 a233; intro a234 ha234
       refine st_skip ha234 rfl rfl rfl rfl ?_
       clear ha234 a234; intro a235 ha235
       refine st_skip ha235 rfl rfl rfl rfl ?_
       clear ha235 a235; intro a236 ha236
       refine st_skip ha236 rfl rfl rfl rfl ?_
       clear ha236 a236; intro a237 ha237
       refine st_y ha237 rfl (y_pickT ha237 rfl rfl) ?_
       clear ha237 a237; intro a238 ha238
       refine wpList_nil ?_
       refine hK52 _ _ ?_; clear hK52; try clear K52
       refine wp_cond_true (ha238.ev (x := .tmp 158) rfl) ?_
       refine wp_seq_k (fun K53 hK53 => ?_)
       have ha239 : Has 197 [(2, _), (3, _), (4, _), (5, _), (10, _), (19, _), (21, _), (36, _), (130, _), (134, _), (139, _), (145, _), (152, _), (158, _)] a238 := ha238.only [2, 3, 4, 5, 10, 19, 21, 36, 130, 134, 139, 145, 152, 158]; clear ha238
       refine wp_region_lit ?_
       refine st_y ha239 rfl (y_loadBR ha239 m6 (i := 20) rfl rfl Try.underlying34 rfl sz34dn (by simp) (by dsimp only [List.drop, List.take] <;> rfl)) ?_
       clear ha239 a238; intro a240 ha240
       refine wpList_plain rfl (fun K hK => ?_)
       refine e_storeW ha240 m6 22 rfl rfl rfl rfl rfl sz34dn ?_
       clear m6; intro w241 m241 hB241
       clear hB241
       refine hK _ _ ?_; clear hK K
       refine st_y ha240 rfl (y_assign ha240 rfl) ?_
       clear ha240 a240; intro a242 ha242
       refine wpList_nil ?_
       refine hK53 _ _ ?_; clear hK53; try clear K53
       refine wp_ret ?_
       try dsimp only [Exit.then, Exit.inBlock]
       refine (retCT (fn := Try.f44) ha242 m241 (i := 22) rfl rfl rfl rfl Try.underlying34 rfl sz34dn ?_)
       have m243 := m241.dat 23 rfl (m241.rd (i := 3) rfl); clear m241
       exact ⟨ne, hi, fl, ws, 33, _, _, rfl, by rw [doR, if_neg (by omega), if_neg (by omega), if_pos (by omega), takeR, if_neg (by simp_all), if_neg (by omega), if_pos (by omega)], m243.ren [(1, 1), (2, 2), (3, 3), (4, 4), (7, 23)] (by decide)⟩
      ·
       clear ha231
       try simp only [Q1x, Q2x, Q3x, Q4x, Q5x, Q6x, Q7x, Q8x, Q9x, Q0x, Qax, Qbx] at hb232
       refine st_g ha232 rfl rfl rfl rfl (y_fieldAddr ha232 (off := 6) rfl Try.underlying34 rfl (s := 0) (by kernel_rfl) rfl) ?_
       clear ha232 a231; intro a244 ha244
       refine st_g ha244 rfl rfl rfl rfl (y_loadB1 ha244 m6 (i := 20) rfl rfl rfl Try.underlying3 rfl) ?_
       clear ha244 a244; intro a245 ha245
       refine st_g ha245 rfl rfl rfl rfl (y_fieldAddr ha245 (off := 5) rfl Try.underlying34 rfl (s := 0) (by kernel_rfl) rfl) ?_
       clear ha245 a245; intro a246 ha246
       refine st_g ha246 rfl rfl rfl rfl (y_loadB1 ha246 m6 (i := 20) rfl rfl rfl Try.underlying3 rfl) ?_
       clear ha246 a246; intro a247 ha247
       refine st_g ha247 rfl rfl rfl rfl (y_eql ha247 rfl rfl) ?_
       clear ha247 a247; intro a248 ha248
       refine st_y ha248 rfl (y_pickF ha248 rfl rfl) ?_
       clear ha248 a248; intro a249 ha249
       refine wpList_nil ?_
       refine hK52 _ _ ?_; clear hK52; try clear K52
       refine bool_cases ha249 (t := 158) rfl (fun hb250 ha250 => ?_) (fun hb250 ha250 => ?_)
       ·
        clear ha249
        try simp only [Q1x, Q2x, Q3x, Q4x, Q5x, Q6x, Q7x, Q8x, Q9x, Q0x, Qax, Qbx] at hb250
        refine wp_cond_true (ha250.ev (x := .tmp 158) rfl) ?_
        refine wp_seq_k (fun K54 hK54 => ?_)
        have ha251 : Has 197 [(2, _), (3, _), (4, _), (5, _), (10, _), (19, _), (21, _), (36, _), (130, _), (134, _), (139, _), (145, _), (152, _), (158, _)] a249 := ha250.only [2, 3, 4, 5, 10, 19, 21, 36, 130, 134, 139, 145, 152, 158]; clear ha250
        refine wp_region_lit ?_
        refine st_y ha251 rfl (y_loadBR ha251 m6 (i := 20) rfl rfl Try.underlying34 rfl sz34dn (by simp) (by dsimp only [List.drop, List.take] <;> rfl)) ?_
        clear ha251 a249; intro a252 ha252
        refine wpList_plain rfl (fun K hK => ?_)
        refine e_storeW ha252 m6 22 rfl rfl rfl rfl rfl sz34dn ?_
        clear m6; intro w253 m253 hB253
        clear hB253
        refine hK _ _ ?_; clear hK K
        refine st_y ha252 rfl (y_assign ha252 rfl) ?_
        clear ha252 a252; intro a254 ha254
        refine wpList_nil ?_
        refine hK54 _ _ ?_; clear hK54; try clear K54
        refine wp_ret ?_
        try dsimp only [Exit.then, Exit.inBlock]
        refine (retCT (fn := Try.f44) ha254 m253 (i := 22) rfl rfl rfl rfl Try.underlying34 rfl sz34dn ?_)
        have m255 := m253.dat 23 rfl (m253.rd (i := 3) rfl); clear m253
        exact ⟨ne, hi, fl, ws, 33, _, _, rfl, by rw [doR, if_neg (by omega), if_neg (by omega), if_pos (by omega), takeR, if_neg (by simp_all), if_neg (by omega), if_pos (by omega)], m255.ren [(1, 1), (2, 2), (3, 3), (4, 4), (7, 23)] (by decide)⟩
       ·
        clear ha249
        try simp only [Q1x, Q2x, Q3x, Q4x, Q5x, Q6x, Q7x, Q8x, Q9x, Q0x, Qax, Qbx] at hb250
        refine wp_cond_false (ha250.ev (x := .tmp 158) rfl) ?_
        refine wp_skip ?_
        refine hK51 _ _ ?_; clear hK51; try clear K51
        refine wp_seq_k (fun K55 hK55 => ?_)
        refine wp_seq_k (fun K56 hK56 => ?_)
        have ha256 : Has 197 [(2, _), (3, _), (4, _), (5, _), (10, _), (19, _), (21, _), (36, _), (130, _), (134, _), (139, _), (145, _), (152, _), (158, _)] a249 := ha250.only [2, 3, 4, 5, 10, 19, 21, 36, 130, 134, 139, 145, 152, 158]; clear ha250
        refine wp_region_lit ?_
        refine st_y ha256 rfl (y_fieldAddr ha256 (off := 1) rfl Try.underlying34 rfl (s := 0) (by kernel_rfl) rfl) ?_
        clear ha256 a249; intro a257 ha257
        refine st_y ha257 rfl (y_loadB1 ha257 m6 (i := 20) rfl rfl rfl Try.underlying3 rfl) ?_
        clear ha257 a257; intro a258 ha258
        refine st_y ha258 rfl (y_fieldAddr ha258 (off := 2) rfl Try.underlying34 rfl (s := 0) (by kernel_rfl) rfl) ?_
        clear ha258 a258; intro a259 ha259
        refine st_y ha259 rfl (y_loadB1 ha259 m6 (i := 20) rfl rfl rfl Try.underlying3 rfl) ?_
        clear ha259 a259; intro a260 ha260
        refine st_y ha260 rfl (y_fieldAddr ha260 (off := 9) rfl Try.underlying25 rfl (s := 0) (by kernel_rfl) rfl) ?_
        clear ha260 a260; intro a261 ha261
        refine st_y ha261 rfl (y_loadB1 ha261 m6 (i := 21) rfl rfl rfl Try.underlying23 rfl) ?_
        clear ha261 a261; intro a262 ha262
        refine wpList_plain rfl (fun K hK => ?_)
        refine e_call ha262 Try.func29 rfl rfl rfl rfl (ritems_any _ _ items _ _ _ _ ((m6.rd (i := 4) rfl).any) hil) ?_
        rintro e w263 ⟨ib, rfl, hib, hb263⟩
        have m264 := m6.later hb263
        clear m6
        clear hb263
        refine ⟨_, rfl, fun a265 ha265 => ?_⟩; clear ha262 a262
        refine hK _ _ ?_; clear hK K
        refine st_y ha265 rfl (y_not ha265 rfl) ?_
        clear ha265 a265; intro a266 ha266
        refine wpList_nil ?_
        refine hK56 _ _ ?_; clear hK56; try clear K56
        refine bool_cases ha266 (t := 167) rfl (fun hb267 ha267 => ?_) (fun hb267 ha267 => ?_)
        ·
         clear ha266
         try simp only [Q1x, Q2x, Q3x, Q4x, Q5x, Q6x, Q7x, Q8x, Q9x, Q0x, Qax, Qbx] at hb267
         refine wp_cond_true (ha267.ev (x := .tmp 167) rfl) ?_
         refine wp_seq_k (fun K57 hK57 => ?_)
         have ha268 : Has 197 [(2, _), (3, _), (4, _), (5, _), (10, _), (19, _), (21, _), (36, _), (130, _), (134, _), (139, _), (145, _), (152, _), (158, _), (167, _)] a266 := ha267.only [2, 3, 4, 5, 10, 19, 21, 36, 130, 134, 139, 145, 152, 158, 167]; clear ha267
         refine wp_region_lit ?_
         refine st_y ha268 rfl (y_loadBR ha268 m264 (i := 20) rfl rfl Try.underlying34 rfl sz34dn (by simp) (by dsimp only [List.drop, List.take] <;> rfl)) ?_
         clear ha268 a266; intro a269 ha269
         refine wpList_plain rfl (fun K hK => ?_)
         refine e_storeW ha269 m264 22 rfl rfl rfl rfl rfl sz34dn ?_
         clear m264; intro w270 m270 hB270
         clear hB270
         refine hK _ _ ?_; clear hK K
         refine st_y ha269 rfl (y_assign ha269 rfl) ?_
         clear ha269 a269; intro a271 ha271
         refine wpList_nil ?_
         refine hK57 _ _ ?_; clear hK57; try clear K57
         refine wp_ret ?_
         try dsimp only [Exit.then, Exit.inBlock]
         refine (retCT (fn := Try.f44) ha271 m270 (i := 22) rfl rfl rfl rfl Try.underlying34 rfl sz34dn ?_)
         have m272 := m270.dat 23 rfl (m270.rd (i := 3) rfl); clear m270
         exact ⟨ne, hi, fl, ws, 23, _, _, rfl, by rw [doR, if_neg (by omega), if_neg (by omega), if_pos (by omega), takeR, if_neg (by simp_all), if_neg (by omega), if_neg (by omega), show wrR bl sz ws items = (ws, 23) from by rw [wrR, if_neg (fun h => by have h9 := hib.2 h; simp_all)]]; rfl, m272.ren [(1, 1), (2, 2), (3, 3), (4, 4), (7, 23)] (by decide)⟩
        ·
         clear ha266
         try simp only [Q1x, Q2x, Q3x, Q4x, Q5x, Q6x, Q7x, Q8x, Q9x, Q0x, Qax, Qbx] at hb267
         refine wp_cond_false (ha267.ev (x := .tmp 167) rfl) ?_
         refine wp_skip ?_
         refine hK55 _ _ ?_; clear hK55; try clear K55
         refine wp_seq_k (fun K58 hK58 => ?_)
         have ha273 : Has 197 [(2, _), (3, _), (4, _), (5, _), (10, _), (19, _), (21, _), (36, _), (130, _), (134, _), (139, _), (145, _), (152, _), (158, _), (167, _)] a266 := ha267.only [2, 3, 4, 5, 10, 19, 21, 36, 130, 134, 139, 145, 152, 158, 167]; clear ha267
         refine wp_region_lit ?_
         refine st_y ha273 rfl (y_loadBR ha273 m264 (i := 20) rfl rfl Try.underlying34 rfl sz34dn (by simp) (by dsimp only [List.drop, List.take] <;> rfl)) ?_
         clear ha273 a266; intro a274 ha274
         refine st_y ha274 rfl (y_fieldAddr ha274 (off := 9) rfl Try.underlying25 rfl (s := 0) (by kernel_rfl) rfl) ?_
         clear ha274 a274; intro a275 ha275
         refine st_y ha275 rfl (y_loadB1 ha275 m264 (i := 21) rfl rfl rfl Try.underlying23 rfl) ?_
         clear ha275 a275; intro a276 ha276
         refine wpList_plain rfl (fun K hK => ?_)
         refine e_call ha276 Try.func65 rfl rfl rfl rfl (rwrite_fr _ _ _ _ _ _ _ _ _ place pins ws items _ _ _ _ _ _ _ _ _ hl hil hio (m264.into [(1, 1), (2, 2), (3, 3), (4, 4)] (by decide) rfl)) ?_
         rintro e w277 ⟨p277, c277, rfl, hm277⟩
         have mx277 := m264.back hm277 [(1, 1), (2, 2), (3, 3), (4, 4), (23, 7)] (by decide); clear hm277 m264
         have m277 : MemOk _ _ [(1, _), (2, _), (3, _), (4, _), (23, _), (20, _), (21, _), (22, _)] _ := mx277.only [1, 2, 3, 4, 23, 20, 21, 22]; clear mx277
         refine ⟨_, rfl, fun a278 ha278 => ?_⟩; clear ha276 a276
         refine hK _ _ ?_; clear hK K
         refine wpList_plain rfl (fun K hK => ?_)
         refine e_storeW ha278 m277 20 rfl rfl rfl rfl rfl sz34dn ?_
         clear m277; intro w279 m279 hB279
         clear hB279
         refine hK _ _ ?_; clear hK K
         refine wpList_nil ?_
         refine hK58 _ _ ?_; clear hK58; try clear K58
         refine wp_region_lit ?_
         refine st_y ha278 rfl (y_fieldAddr ha278 (off := 6) rfl Try.underlying34 rfl (s := 0) (by kernel_rfl) rfl) ?_
         clear ha278 a278; intro a280 ha280
         refine st_y ha280 rfl (y_loadB1 ha280 m279 (i := 20) rfl rfl rfl Try.underlying3 rfl) ?_
         clear ha280 a280; intro a281 ha281
         refine st_y ha281 rfl (y_add ha281 rfl rfl (r := ne + 1) (IntWalk.i64_in _ (by omega))) ?_
         clear ha281 a281; intro a282 ha282
         refine st_y ha282 rfl (y_fieldAddr ha282 (off := 6) rfl Try.underlying34 rfl (s := 0) (by kernel_rfl) rfl) ?_
         clear ha282 a282; intro a283 ha283
         refine wpList_plain rfl (fun K hK => ?_)
         refine e_store1 ha283 m279 20 rfl rfl rfl rfl rfl sz3dn (by dsimp only [List.set] <;> rfl) ?_
         clear m279; intro w284 m284 hB284
         clear hB284
         refine hK _ _ ?_; clear hK K
         refine wpList_nil ?_
         refine hK29 _ _ ?_; clear hK29; try clear K29
         refine wp_seq_k (fun K59 hK59 => ?_)
         have ha285 : Has 197 [(2, _), (4, _), (5, _), (10, _), (21, _), (36, _), (130, _), (134, _), (139, _), (145, _), (152, _), (158, _), (167, _)] a283 := ha283.only [2, 4, 5, 10, 21, 36, 130, 134, 139, 145, 152, 158, 167]; clear ha283
         refine wp_region_lit ?_
         refine st_y ha285 rfl (y_loadBR ha285 m284 (i := 20) rfl rfl Try.underlying34 rfl sz34dn (by simp) (by dsimp only [List.drop, List.take] <;> rfl)) ?_
         clear ha285 a283; intro a286 ha286
         refine wpList_plain rfl (fun K hK => ?_)
         refine e_storeW ha286 m284 22 rfl rfl rfl rfl rfl sz34dn ?_
         clear m284; intro w287 m287 hB287
         clear hB287
         refine hK _ _ ?_; clear hK K
         refine st_y ha286 rfl (y_assign ha286 rfl) ?_
         clear ha286 a286; intro a288 ha288
         refine wpList_nil ?_
         refine hK59 _ _ ?_; clear hK59; try clear K59
         refine wp_ret ?_
         try dsimp only [Exit.then, Exit.inBlock]
         refine (retCT (fn := Try.f44) ha288 m287 (i := 22) rfl rfl rfl rfl Try.underlying34 rfl sz34dn ?_)
         exact ⟨(ne + 1), hi, fl, (ws ++ [((ws.length : Int) + 1, items)]), 0, _, _, rfl, by rw [doR, if_neg (by omega), if_neg (by omega), if_pos (by omega), takeR, if_neg (by simp_all), if_neg (by omega), if_neg (by omega), show wrR bl sz ws items = ((ws ++ [((ws.length : Int) + 1, items)]), 0) from by rw [wrR, if_pos (hib.1 (by simp_all))]]; rfl, m287.ren [(1, 1), (2, 2), (3, 3), (4, 4), (7, 23)] (by decide)⟩
   ·
    clear ha128
    try simp only [Q1x, Q2x, Q3x, Q4x, Q5x, Q6x, Q7x, Q8x, Q9x, Q0x, Qax, Qbx] at hb129
    refine wp_cond_false (ha129.ev (x := .tmp 130) rfl) ?_
    refine wp_seq_k (fun K60 hK60 => ?_)
    refine wp_region_lit ?_
    refine st_y ha129 rfl (y_eql ha129 rfl rfl) ?_
    clear ha129 a128; intro a289 ha289
    refine st_y ha289 rfl (y_assign ha289 rfl) ?_
    clear ha289 a289; intro a290 ha290
    refine wpList_nil ?_
    refine hK60 _ _ ?_; clear hK60; try clear K60
    refine bool_cases ha290 (t := 177) rfl (fun hb291 ha291 => ?_) (fun hb291 ha291 => ?_)
    ·
     clear ha290
     try simp only [Q1x, Q2x, Q3x, Q4x, Q5x, Q6x, Q7x, Q8x, Q9x, Q0x, Qax, Qbx] at hb291
     refine wp_cond_true (ha291.ev (x := .tmp 177) rfl) ?_
     refine wp_seq_k (fun K61 hK61 => ?_)
     refine wp_seq_k (fun K62 hK62 => ?_)
     refine wp_region_lit ?_
     refine st_y ha291 rfl (y_fieldAddr ha291 (off := 7) rfl Try.underlying34 rfl (s := 0) (by kernel_rfl) rfl) ?_
     clear ha291 a290; intro a292 ha292
     refine st_y ha292 rfl (y_loadB1 ha292 m6 (i := 20) rfl rfl rfl Try.underlying4 rfl) ?_
     clear ha292 a292; intro a293 ha293
     refine st_y ha293 rfl (y_not ha293 rfl) ?_
     clear ha293 a293; intro a294 ha294
     refine st_y ha294 rfl (y_move ha294 rfl) ?_
     clear ha294 a294; intro a295 ha295
     refine bool_cases ha295 (t := 182) rfl (fun hb296 ha296 => ?_) (fun hb296 ha296 => ?_)
     ·
      clear ha295
      try simp only [Q1x, Q2x, Q3x, Q4x, Q5x, Q6x, Q7x, Q8x, Q9x, Q0x, Qax, Qbx] at hb296
      refine st_skip ha296 rfl rfl rfl rfl ?_
      clear ha296 a295; intro a297 ha297
      refine st_skip ha297 rfl rfl rfl rfl ?_
      clear ha297 a297; intro a298 ha298
      refine st_skip ha298 rfl rfl rfl rfl ?_
      clear ha298 a298; intro a299 ha299
      refine st_skip ha299 rfl rfl rfl rfl ?_
      clear ha299 a299; intro a300 ha300
      refine st_skip ha300 rfl rfl rfl rfl ?_
      clear ha300 a300; intro a301 ha301
      refine st_y ha301 rfl (y_pickT ha301 rfl rfl) ?_
      clear ha301 a301; intro a302 ha302
      refine wpList_nil ?_
      refine hK62 _ _ ?_; clear hK62; try clear K62
      refine wp_cond_true (ha302.ev (x := .tmp 188) rfl) ?_
      refine wp_seq_k (fun K63 hK63 => ?_)
      have ha303 : Has 197 [(2, _), (4, _), (5, _), (10, _), (19, _), (21, _), (36, _), (130, _), (177, _), (182, _), (188, _)] a302 := ha302.only [2, 4, 5, 10, 19, 21, 36, 130, 177, 182, 188]; clear ha302
      refine wp_region_lit ?_
      refine st_y ha303 rfl (y_loadBR ha303 m6 (i := 20) rfl rfl Try.underlying34 rfl sz34dn (by simp) (by dsimp only [List.drop, List.take] <;> rfl)) ?_
      clear ha303 a302; intro a304 ha304
      refine wpList_plain rfl (fun K hK => ?_)
      refine e_storeW ha304 m6 22 rfl rfl rfl rfl rfl sz34dn ?_
      clear m6; intro w305 m305 hB305
      clear hB305
      refine hK _ _ ?_; clear hK K
      refine st_y ha304 rfl (y_assign ha304 rfl) ?_
      clear ha304 a304; intro a306 ha306
      refine wpList_nil ?_
      refine hK63 _ _ ?_; clear hK63; try clear K63
      refine wp_ret ?_
      try dsimp only [Exit.then, Exit.inBlock]
      refine (retCT (fn := Try.f44) ha306 m305 (i := 22) rfl rfl rfl rfl Try.underlying34 rfl sz34dn ?_)
      have m307 := m305.dat 23 rfl (m305.rd (i := 3) rfl); clear m305
      exact ⟨ne, hi, fl, ws, 33, _, _, rfl, by rw [doR, if_neg (by omega), if_neg (by omega), if_neg (by omega), if_pos (by omega), publishR, if_pos (by first | (left; simp_all; done) | (right; assumption) | omega)], m307.ren [(1, 1), (2, 2), (3, 3), (4, 4), (7, 23)] (by decide)⟩
     ·
      clear ha295
      try simp only [Q1x, Q2x, Q3x, Q4x, Q5x, Q6x, Q7x, Q8x, Q9x, Q0x, Qax, Qbx] at hb296
      refine st_g ha296 rfl rfl rfl rfl (y_fieldAddr ha296 (off := 6) rfl Try.underlying34 rfl (s := 0) (by kernel_rfl) rfl) ?_
      clear ha296 a295; intro a308 ha308
      refine st_g ha308 rfl rfl rfl rfl (y_loadB1 ha308 m6 (i := 20) rfl rfl rfl Try.underlying3 rfl) ?_
      clear ha308 a308; intro a309 ha309
      refine st_g ha309 rfl rfl rfl rfl (y_fieldAddr ha309 (off := 5) rfl Try.underlying34 rfl (s := 0) (by kernel_rfl) rfl) ?_
      clear ha309 a309; intro a310 ha310
      refine st_g ha310 rfl rfl rfl rfl (y_loadB1 ha310 m6 (i := 20) rfl rfl rfl Try.underlying3 rfl) ?_
      clear ha310 a310; intro a311 ha311
      refine st_g ha311 rfl rfl rfl rfl (y_neq ha311 rfl rfl) ?_
      clear ha311 a311; intro a312 ha312
      refine st_y ha312 rfl (y_pickF ha312 rfl rfl) ?_
      clear ha312 a312; intro a313 ha313
      refine wpList_nil ?_
      refine hK62 _ _ ?_; clear hK62; try clear K62
      refine bool_cases ha313 (t := 188) rfl (fun hb314 ha314 => ?_) (fun hb314 ha314 => ?_)
      ·
       clear ha313
       try simp only [Q1x, Q2x, Q3x, Q4x, Q5x, Q6x, Q7x, Q8x, Q9x, Q0x, Qax, Qbx] at hb314
       refine wp_cond_true (ha314.ev (x := .tmp 188) rfl) ?_
       refine wp_seq_k (fun K64 hK64 => ?_)
       have ha315 : Has 197 [(2, _), (4, _), (5, _), (10, _), (19, _), (21, _), (36, _), (130, _), (177, _), (182, _), (188, _)] a313 := ha314.only [2, 4, 5, 10, 19, 21, 36, 130, 177, 182, 188]; clear ha314
       refine wp_region_lit ?_
       refine st_y ha315 rfl (y_loadBR ha315 m6 (i := 20) rfl rfl Try.underlying34 rfl sz34dn (by simp) (by dsimp only [List.drop, List.take] <;> rfl)) ?_
       clear ha315 a313; intro a316 ha316
       refine wpList_plain rfl (fun K hK => ?_)
       refine e_storeW ha316 m6 22 rfl rfl rfl rfl rfl sz34dn ?_
       clear m6; intro w317 m317 hB317
       clear hB317
       refine hK _ _ ?_; clear hK K
       refine st_y ha316 rfl (y_assign ha316 rfl) ?_
       clear ha316 a316; intro a318 ha318
       refine wpList_nil ?_
       refine hK64 _ _ ?_; clear hK64; try clear K64
       refine wp_ret ?_
       try dsimp only [Exit.then, Exit.inBlock]
       refine (retCT (fn := Try.f44) ha318 m317 (i := 22) rfl rfl rfl rfl Try.underlying34 rfl sz34dn ?_)
       have m319 := m317.dat 23 rfl (m317.rd (i := 3) rfl); clear m317
       exact ⟨ne, hi, fl, ws, 33, _, _, rfl, by rw [doR, if_neg (by omega), if_neg (by omega), if_neg (by omega), if_pos (by omega), publishR, if_pos (by first | (left; simp_all; done) | (right; assumption) | omega)], m319.ren [(1, 1), (2, 2), (3, 3), (4, 4), (7, 23)] (by decide)⟩
      ·
       clear ha313
       try simp only [Q1x, Q2x, Q3x, Q4x, Q5x, Q6x, Q7x, Q8x, Q9x, Q0x, Qax, Qbx] at hb314
       refine wp_cond_false (ha314.ev (x := .tmp 188) rfl) ?_
       refine wp_skip ?_
       refine hK61 _ _ ?_; clear hK61; try clear K61
       have ha320 : Has 197 [(2, _), (4, _), (5, _), (10, _), (19, _), (21, _), (36, _), (130, _), (177, _), (182, _), (188, _)] a313 := ha314.only [2, 4, 5, 10, 19, 21, 36, 130, 177, 182, 188]; clear ha314
       refine wp_region_lit ?_
       refine st_y ha320 rfl (y_loadBR ha320 m6 (i := 20) rfl rfl Try.underlying34 rfl sz34dn (by simp) (by dsimp only [List.drop, List.take] <;> rfl)) ?_
       clear ha320 a313; intro a321 ha321
       refine wpList_plain rfl (fun K hK => ?_)
       refine e_call ha321 Try.func21 rfl rfl rfl rfl (rlen_any _ _ _ _ _ _ _ _ _ _ _ _ _ _ _ _ _ _) ?_
       rintro e w322 ⟨rfl, hb322⟩
       rw [List.length_map]
       have m323 := m6.later hb322
       clear m6
       clear hb322
       refine ⟨_, rfl, fun a324 ha324 => ?_⟩; clear ha321 a321
       refine hK _ _ ?_; clear hK K
       refine st_y ha324 rfl (y_fieldAddr ha324 (off := 7) rfl Try.underlying34 rfl (s := 0) (by kernel_rfl) rfl) ?_
       clear ha324 a324; intro a325 ha325
       refine wpList_plain rfl (fun K hK => ?_)
       refine e_store1 ha325 m323 20 rfl rfl rfl rfl rfl sz4dn (by dsimp only [List.set] <;> rfl) ?_
       clear m323; intro w326 m326 hB326
       clear hB326
       refine hK _ _ ?_; clear hK K
       refine st_y ha325 rfl (y_fieldAddr ha325 (off := 8) rfl Try.underlying34 rfl (s := 0) (by kernel_rfl) rfl) ?_
       clear ha325 a325; intro a327 ha327
       refine wpList_plain rfl (fun K hK => ?_)
       refine e_store1 ha327 m326 20 rfl rfl rfl rfl rfl sz2dn (by dsimp only [List.set] <;> rfl) ?_
       clear m326; intro w328 m328 hB328
       clear hB328
       refine hK _ _ ?_; clear hK K
       refine wpList_nil ?_
       refine hK29 _ _ ?_; clear hK29; try clear K29
       refine wp_seq_k (fun K65 hK65 => ?_)
       refine wp_region_lit ?_
       refine st_y ha327 rfl (y_loadBR ha327 m328 (i := 20) rfl rfl Try.underlying34 rfl sz34dn (by simp) (by dsimp only [List.drop, List.take] <;> rfl)) ?_
       clear ha327 a327; intro a329 ha329
       refine wpList_plain rfl (fun K hK => ?_)
       refine e_storeW ha329 m328 22 rfl rfl rfl rfl rfl sz34dn ?_
       clear m328; intro w330 m330 hB330
       clear hB330
       refine hK _ _ ?_; clear hK K
       refine st_y ha329 rfl (y_assign ha329 rfl) ?_
       clear ha329 a329; intro a331 ha331
       refine wpList_nil ?_
       refine hK65 _ _ ?_; clear hK65; try clear K65
       refine wp_ret ?_
       try dsimp only [Exit.then, Exit.inBlock]
       refine (retCT (fn := Try.f44) ha331 m330 (i := 22) rfl rfl rfl rfl Try.underlying34 rfl sz34dn ?_)
       have m332 := m330.dat 23 rfl (m330.rd (i := 3) rfl); clear m330
       exact ⟨ne, false, ws.length, ws, 0, _, _, rfl, by rw [doR, if_neg (by omega), if_neg (by omega), if_neg (by omega), if_pos (by omega), publishR, if_neg (by rintro (h | h) <;> simp_all)], m332.ren [(1, 1), (2, 2), (3, 3), (4, 4), (7, 23)] (by decide)⟩
    ·
     clear ha290
     try simp only [Q1x, Q2x, Q3x, Q4x, Q5x, Q6x, Q7x, Q8x, Q9x, Q0x, Qax, Qbx] at hb291
     refine wp_cond_false (ha291.ev (x := .tmp 177) rfl) ?_
     refine wp_seq_k (fun K66 hK66 => ?_)
     refine wp_region_lit ?_
     refine st_y ha291 rfl (y_eql ha291 rfl rfl) ?_
     clear ha291 a290; intro a333 ha333
     refine st_y ha333 rfl (y_assign ha333 rfl) ?_
     clear ha333 a333; intro a334 ha334
     refine wpList_nil ?_
     refine hK66 _ _ ?_; clear hK66; try clear K66
     refine bool_cases ha334 (t := 194) rfl (fun hb335 ha335 => ?_) (fun hb335 ha335 => ?_)
     ·
      clear ha334
      try simp only [Q1x, Q2x, Q3x, Q4x, Q5x, Q6x, Q7x, Q8x, Q9x, Q0x, Qax, Qbx] at hb335
      refine wp_cond_true (ha335.ev (x := .tmp 194) rfl) ?_
      refine wp_skip ?_
      refine hK29 _ _ ?_; clear hK29; try clear K29
      refine wp_seq_k (fun K67 hK67 => ?_)
      have ha336 : Has 197 [(2, _), (4, _), (5, _), (10, _), (21, _), (36, _), (130, _), (177, _), (194, _)] a334 := ha335.only [2, 4, 5, 10, 21, 36, 130, 177, 194]; clear ha335
      refine wp_region_lit ?_
      refine st_y ha336 rfl (y_loadBR ha336 m6 (i := 20) rfl rfl Try.underlying34 rfl sz34dn (by simp) (by dsimp only [List.drop, List.take] <;> rfl)) ?_
      clear ha336 a334; intro a337 ha337
      refine wpList_plain rfl (fun K hK => ?_)
      refine e_storeW ha337 m6 22 rfl rfl rfl rfl rfl sz34dn ?_
      clear m6; intro w338 m338 hB338
      clear hB338
      refine hK _ _ ?_; clear hK K
      refine st_y ha337 rfl (y_assign ha337 rfl) ?_
      clear ha337 a337; intro a339 ha339
      refine wpList_nil ?_
      refine hK67 _ _ ?_; clear hK67; try clear K67
      refine wp_ret ?_
      try dsimp only [Exit.then, Exit.inBlock]
      refine (retCT (fn := Try.f44) ha339 m338 (i := 22) rfl rfl rfl rfl Try.underlying34 rfl sz34dn ?_)
      have m340 := m338.dat 23 rfl (m338.rd (i := 3) rfl); clear m338
      exact ⟨ne, hi, fl, ws, 0, _, _, rfl, by rw [doR, if_neg (by omega), if_neg (by omega), if_neg (by omega), if_neg (by omega), if_pos (by omega)], m340.ren [(1, 1), (2, 2), (3, 3), (4, 4), (7, 23)] (by decide)⟩
     ·
      clear ha334
      try simp only [Q1x, Q2x, Q3x, Q4x, Q5x, Q6x, Q7x, Q8x, Q9x, Q0x, Qax, Qbx] at hb335
      refine wp_cond_false (ha335.ev (x := .tmp 194) rfl) ?_
      refine wp_seq_k (fun K68 hK68 => ?_)
      have ha341 : Has 197 [(2, _), (4, _), (5, _), (10, _), (21, _), (36, _), (130, _), (177, _), (194, _)] a334 := ha335.only [2, 4, 5, 10, 21, 36, 130, 177, 194]; clear ha335
      refine wp_region_lit ?_
      refine st_y ha341 rfl (y_loadBR ha341 m6 (i := 20) rfl rfl Try.underlying34 rfl sz34dn (by simp) (by dsimp only [List.drop, List.take] <;> rfl)) ?_
      clear ha341 a334; intro a342 ha342
      refine wpList_plain rfl (fun K hK => ?_)
      refine e_storeW ha342 m6 22 rfl rfl rfl rfl rfl sz34dn ?_
      clear m6; intro w343 m343 hB343
      clear hB343
      refine hK _ _ ?_; clear hK K
      refine st_y ha342 rfl (y_assign ha342 rfl) ?_
      clear ha342 a342; intro a344 ha344
      refine wpList_nil ?_
      refine hK68 _ _ ?_; clear hK68; try clear K68
      refine wp_ret ?_
      try dsimp only [Exit.then, Exit.inBlock]
      refine (retCT (fn := Try.f44) ha344 m343 (i := 22) rfl rfl rfl rfl Try.underlying34 rfl sz34dn ?_)
      have m345 := m343.dat 23 rfl (m343.rd (i := 3) rfl); clear m343
      exact ⟨ne, hi, fl, ws, 23, _, _, rfl, by rw [doR, if_neg (by omega), if_neg (by omega), if_neg (by omega), if_neg (by omega), if_neg (by omega)], m345.ren [(1, 1), (2, 2), (3, 3), (4, 4), (7, 23)] (by decide)⟩
theorem rdone4 (X : Cx) (vo bl sz pe to ne fl : Int) (hi : Bool) (place pins : List Int) (ws : List (Int × List (Int × List Int))) (pp pn pw : Option Addr) (cp cn9 cw : Nat) (v1 v2 v3 v4 v5 at0 v6 : Int) (q1 : Option Addr) (n1 c1 : Nat) (q2 : Option Addr) (n2 c2 : Nat) (w0 : World) (hp : pins.length ≤ 900000) (hsp : pins.Pairwise (· ≤ ·)) (m0 : MemOk X w0 [(1, .dat (.slice pp place.length cp) (.ns .i64 place)), (2, .dat (.slice pn pins.length cn9) (.ns .i64 pins)), (3, .dat (.slice pw (ws.map wrD).length cw) (.l 2 (ws.map wrD)))] w0) :
   Calls Try.prog 44 #[.agg #[.int .i64 vo, .int .i64 bl, .int .i64 sz, .int .i64 pe, .slice pp place.length cp, .int .i64 to, .int .i64 ne, .bool hi, .int .i64 fl, .slice pn pins.length cn9, .slice pw (ws.map wrD).length cw], .agg #[.int .i64 4, .int .i64 v1, .int .i64 v2, .int .i64 v3, .int .i64 v4, .slice q1 n1 c1, .int .i64 v5, .int .i64 at0, .int .i64 v6, .slice q2 n2 c2]] w0 fun e w' => ∃ (pins' : List Int) (e9 : Int) (p2' : Option Addr) (d2' : Nat), e = .returned (.tuple #[.agg #[.int .i64 vo, .int .i64 bl, .int .i64 sz, .int .i64 pe, .slice pp place.length cp, .int .i64 to, .int .i64 ne, .bool hi, .int .i64 fl, .slice p2' pins'.length d2', .slice pw (ws.map wrD).length cw], .int .i64 e9]) ∧ pinR hi fl at0 ws.length pins = (pins', e9) ∧ MemOk X w0 [(1, .dat (.slice pp place.length cp) (.ns .i64 place)), (2, .dat (.slice pn pins.length cn9) (.ns .i64 pins)), (3, .dat (.slice pw (ws.map wrD).length cw) (.l 2 (ws.map wrD))), (6, .dat (.slice p2' pins'.length d2') (.ns .i64 pins'))] w' := by
 refine enter (fn := Try.f44) Try.func44 rfl Try.ntmps44 rfl (fun a0 ha0 => ?_)
 simp only [List.zipIdx_cons, List.zipIdx_nil, List.map_cons, List.map_nil, Nat.reduceAdd, Nat.zero_add] at ha0
 refine wp_seq_k (fun K0 hK0 => ?_)
 refine wp_region_lit ?_
 refine wpList_plain rfl (fun K hK => ?_)
 refine e_box ha0 m0 20 (cs := [_, _, _, _, _, _, _, _, _, _, _]) rfl rfl rfl ?_
 clear ha0 a0 m0; intro g1 a2 w2 ha2 m2 hB2 hg2
 clear hB2 hg2
 refine hK _ _ ?_; clear hK K
 refine wpList_plain rfl (fun K hK => ?_)
 refine e_box ha2 m2 21 (cs := [_, _, _, _, _, _, _, _, _, _]) rfl rfl rfl ?_
 clear ha2 a2 m2; intro g3 a4 w4 ha4 m4 hB4 hg4
 clear hB4 hg4
 refine hK _ _ ?_; clear hK K
 refine wpList_plain rfl (fun K hK => ?_)
 refine e_alloc ha4 m4 22 zc34dn4 rfl ?_
 clear ha4 a4 m4; intro g5 a6 w6 ha6 m6 hB6 hg6
 clear hB6 hg6
 refine hK _ _ ?_; clear hK K
 refine st_y ha6 rfl (y_assign ha6 rfl) ?_
 clear ha6 a6; intro a7 ha7
 refine wpList_nil ?_
 refine hK0 _ _ ?_; clear hK0; try clear K0
 refine wp_seq_k (fun K1 hK1 => ?_)
 refine wp_seq_k (fun K2 hK2 => ?_)
 refine wp_region_lit ?_
 refine st_y ha7 rfl (y_fieldAddr ha7 (off := 0) rfl Try.underlying25 rfl (s := 0) (by kernel_rfl) rfl) ?_
 clear ha7 a7; intro a8 ha8
 refine st_y ha8 rfl (y_loadB1 ha8 m6 (i := 21) rfl rfl rfl Try.underlying3 rfl) ?_
 clear ha8 a8; intro a9 ha9
 refine wpList_nil ?_
 refine hK2 _ _ ?_; clear hK2; try clear K2
 refine wp_block ?_
 refine wp_seq_k (fun K3 hK3 => ?_)
 refine wp_seq_k (fun K4 hK4 => ?_)
 refine wp_region_lit ?_
 refine st_y ha9 rfl (y_eql ha9 rfl rfl) ?_
 clear ha9 a9; intro a10 ha10
 refine st_y ha10 rfl (y_assign ha10 rfl) ?_
 clear ha10 a10; intro a11 ha11
 refine wpList_nil ?_
 refine hK4 _ _ ?_; clear hK4; try clear K4
 refine bool_cases ha11 (t := 10) rfl (fun hb12 ha12 => ?_) (fun hb12 ha12 => ?_)
 · exact absurd hb12 (by simp)
 clear ha11 hb12
 refine wp_cond_false (ha12.ev (x := .tmp 10) rfl) ?_
 refine wp_seq_k (fun K5 hK5 => ?_)
 refine wp_region_lit ?_
 refine st_y ha12 rfl (y_eql ha12 rfl rfl) ?_
 clear ha12 a11; intro a13 ha13
 refine st_y ha13 rfl (y_assign ha13 rfl) ?_
 clear ha13 a13; intro a14 ha14
 refine wpList_nil ?_
 refine hK5 _ _ ?_; clear hK5; try clear K5
 refine bool_cases ha14 (t := 10) rfl (fun hb15 ha15 => ?_) (fun hb15 ha15 => ?_)
 · exact absurd hb15 (by simp)
 clear ha14 hb15
 refine wp_cond_false (ha15.ev (x := .tmp 10) rfl) ?_
 refine wp_seq_k (fun K6 hK6 => ?_)
 refine wp_region_lit ?_
 refine st_y ha15 rfl (y_eql ha15 rfl rfl) ?_
 clear ha15 a14; intro a16 ha16
 refine st_y ha16 rfl (y_assign ha16 rfl) ?_
 clear ha16 a16; intro a17 ha17
 refine wpList_nil ?_
 refine hK6 _ _ ?_; clear hK6; try clear K6
 refine bool_cases ha17 (t := 10) rfl (fun hb18 ha18 => ?_) (fun hb18 ha18 => ?_)
 rotate_left
 · exact absurd hb18 (by simp)
 clear ha17 hb18
 refine wp_cond_true (ha18.ev (x := .tmp 10) rfl) ?_
 refine wp_skip ?_
 refine hK3 _ _ ?_; clear hK3; try clear K3
 refine wp_cond_true (ha18.ev (x := .tmp 10) rfl) ?_
 refine wp_seq_k (fun K7 hK7 => ?_)
 have ha19 : Has 197 [(2, _), (3, _), (4, _), (5, _)] a17 := ha18.only [2, 3, 4, 5]; clear ha18
 refine wp_region_lit ?_
 refine st_y ha19 rfl (y_fieldAddr ha19 (off := 7) rfl Try.underlying34 rfl (s := 0) (by kernel_rfl) rfl) ?_
 clear ha19 a17; intro a20 ha20
 refine st_y ha20 rfl (y_loadB1 ha20 m6 (i := 20) rfl rfl rfl Try.underlying4 rfl) ?_
 clear ha20 a20; intro a21 ha21
 refine wpList_nil ?_
 refine hK7 _ _ ?_; clear hK7; try clear K7
 refine bool_cases ha21 (t := 16) rfl (fun hb22 ha22 => ?_) (fun hb22 ha22 => ?_)
 ·
  clear ha21
  try simp only [Q1x, Q2x, Q3x, Q4x, Q5x, Q6x, Q7x, Q8x, Q9x, Q0x, Qax, Qbx] at hb22
  refine wp_cond_true (ha22.ev (x := .tmp 16) rfl) ?_
  refine wp_seq_k (fun K8 hK8 => ?_)
  refine wp_region_lit ?_
  refine st_y ha22 rfl (y_loadBR ha22 m6 (i := 20) rfl rfl Try.underlying34 rfl sz34dn4 (by simp) (by dsimp only [List.drop, List.take] <;> rfl)) ?_
  clear ha22 a21; intro a23 ha23
  refine wpList_plain rfl (fun K hK => ?_)
  refine e_storeW ha23 m6 22 rfl rfl rfl rfl rfl sz34dn4 ?_
  clear m6; intro w24 m24 hB24
  clear hB24
  refine hK _ _ ?_; clear hK K
  refine st_y ha23 rfl (y_assign ha23 rfl) ?_
  clear ha23 a23; intro a25 ha25
  refine wpList_nil ?_
  refine hK8 _ _ ?_; clear hK8; try clear K8
  refine wp_ret ?_
  try dsimp only [Exit.then, Exit.inBlock]
  refine (retCT (fn := Try.f44) ha25 m24 (i := 22) rfl rfl rfl rfl Try.underlying34 rfl sz34dn4 ?_)
  have m26 := m24.dat 23 rfl (m24.rd (i := 2) rfl); clear m24
  exact ⟨pins, 28, _, _, rfl, by rw [pinR, show reachR hi fl at0 ws.length = 28 from by rw [reachR, if_pos (by assumption)]]; rfl, m26.ren [(1, 1), (2, 2), (3, 3), (6, 23)] (by decide)⟩
 ·
  clear ha21
  try simp only [Q1x, Q2x, Q3x, Q4x, Q5x, Q6x, Q7x, Q8x, Q9x, Q0x, Qax, Qbx] at hb22
  refine wp_cond_false (ha22.ev (x := .tmp 16) rfl) ?_
  refine wp_skip ?_
  refine hK1 _ _ ?_; clear hK1; try clear K1
  refine wp_seq_k (fun K9 hK9 => ?_)
  refine wp_seq_k (fun K10 hK10 => ?_)
  refine wp_region_lit ?_
  refine st_y ha22 rfl (y_fieldAddr ha22 (off := 0) rfl Try.underlying25 rfl (s := 0) (by kernel_rfl) rfl) ?_
  clear ha22 a21; intro a27 ha27
  refine st_y ha27 rfl (y_loadB1 ha27 m6 (i := 21) rfl rfl rfl Try.underlying3 rfl) ?_
  clear ha27 a27; intro a28 ha28
  refine wpList_nil ?_
  refine hK10 _ _ ?_; clear hK10; try clear K10
  refine wp_block ?_
  refine wp_seq_k (fun K11 hK11 => ?_)
  refine wp_region_lit ?_
  refine st_y ha28 rfl (y_eql ha28 rfl rfl) ?_
  clear ha28 a28; intro a29 ha29
  refine st_y ha29 rfl (y_assign ha29 rfl) ?_
  clear ha29 a29; intro a30 ha30
  refine wpList_nil ?_
  refine hK11 _ _ ?_; clear hK11; try clear K11
  refine bool_cases ha30 (t := 21) rfl (fun hb31 ha31 => ?_) (fun hb31 ha31 => ?_)
  · exact absurd hb31 (by simp)
  clear ha30 hb31
  refine wp_cond_false (ha31.ev (x := .tmp 21) rfl) ?_
  refine wp_seq_k (fun K12 hK12 => ?_)
  refine wp_region_lit ?_
  refine st_y ha31 rfl (y_eql ha31 rfl rfl) ?_
  clear ha31 a30; intro a32 ha32
  refine st_y ha32 rfl (y_assign ha32 rfl) ?_
  clear ha32 a32; intro a33 ha33
  refine wpList_nil ?_
  refine hK12 _ _ ?_; clear hK12; try clear K12
  refine bool_cases ha33 (t := 36) rfl (fun hb34 ha34 => ?_) (fun hb34 ha34 => ?_)
  · exact absurd hb34 (by simp)
  clear ha33 hb34
  refine wp_cond_false (ha34.ev (x := .tmp 36) rfl) ?_
  refine wp_seq_k (fun K13 hK13 => ?_)
  have ha35 : Has 197 [(2, _), (3, _), (4, _), (5, _), (16, _), (19, _)] a33 := ha34.only [2, 3, 4, 5, 16, 19]; clear ha34
  refine wp_region_lit ?_
  refine st_y ha35 rfl (y_eql ha35 rfl rfl) ?_
  clear ha35 a33; intro a36 ha36
  refine st_y ha36 rfl (y_assign ha36 rfl) ?_
  clear ha36 a36; intro a37 ha37
  refine wpList_nil ?_
  refine hK13 _ _ ?_; clear hK13; try clear K13
  refine bool_cases ha37 (t := 53) rfl (fun hb38 ha38 => ?_) (fun hb38 ha38 => ?_)
  rotate_left
  · exact absurd hb38 (by simp)
  clear ha37 hb38
  refine wp_cond_true (ha38.ev (x := .tmp 53) rfl) ?_
  refine wp_seq_k (fun K14 hK14 => ?_)
  refine wp_seq_k (fun K15 hK15 => ?_)
  refine wp_region_lit ?_
  refine st_y ha38 rfl (y_fieldAddr ha38 (off := 7) rfl Try.underlying25 rfl (s := 0) (by kernel_rfl) rfl) ?_
  clear ha38 a37; intro a39 ha39
  refine st_y ha39 rfl (y_loadB1 ha39 m6 (i := 21) rfl rfl rfl Try.underlying2 rfl) ?_
  clear ha39 a39; intro a40 ha40
  refine st_y ha40 rfl (y_fieldAddr ha40 (off := 8) rfl Try.underlying34 rfl (s := 0) (by kernel_rfl) rfl) ?_
  clear ha40 a40; intro a41 ha41
  refine st_y ha41 rfl (y_loadB1 ha41 m6 (i := 20) rfl rfl rfl Try.underlying2 rfl) ?_
  clear ha41 a41; intro a42 ha42
  refine st_y ha42 rfl (y_lss ha42 rfl rfl) ?_
  clear ha42 a42; intro a43 ha43
  refine wpList_nil ?_
  refine hK15 _ _ ?_; clear hK15; try clear K15
  refine bool_cases ha43 (t := 59) rfl (fun hb44 ha44 => ?_) (fun hb44 ha44 => ?_)
  ·
   clear ha43
   try simp only [Q1x, Q2x, Q3x, Q4x, Q5x, Q6x, Q7x, Q8x, Q9x, Q0x, Qax, Qbx] at hb44
   refine wp_cond_true (ha44.ev (x := .tmp 59) rfl) ?_
   refine wp_seq_k (fun K16 hK16 => ?_)
   have ha45 : Has 197 [(2, _), (3, _), (4, _), (5, _), (16, _), (19, _), (59, _)] a43 := ha44.only [2, 3, 4, 5, 16, 19, 59]; clear ha44
   refine wp_region_lit ?_
   refine st_y ha45 rfl (y_loadBR ha45 m6 (i := 20) rfl rfl Try.underlying34 rfl sz34dn4 (by simp) (by dsimp only [List.drop, List.take] <;> rfl)) ?_
   clear ha45 a43; intro a46 ha46
   refine wpList_plain rfl (fun K hK => ?_)
   refine e_storeW ha46 m6 22 rfl rfl rfl rfl rfl sz34dn4 ?_
   clear m6; intro w47 m47 hB47
   clear hB47
   refine hK _ _ ?_; clear hK K
   refine st_y ha46 rfl (y_assign ha46 rfl) ?_
   clear ha46 a46; intro a48 ha48
   refine wpList_nil ?_
   refine hK16 _ _ ?_; clear hK16; try clear K16
   refine wp_ret ?_
   try dsimp only [Exit.then, Exit.inBlock]
   refine (retCT (fn := Try.f44) ha48 m47 (i := 22) rfl rfl rfl rfl Try.underlying34 rfl sz34dn4 ?_)
   have m49 := m47.dat 23 rfl (m47.rd (i := 2) rfl); clear m47
   exact ⟨pins, 30, _, _, rfl, by rw [pinR, show reachR hi fl at0 ws.length = 30 from by rw [reachR, if_neg (by simp_all), if_pos (by omega)]]; rfl, m49.ren [(1, 1), (2, 2), (3, 3), (6, 23)] (by decide)⟩
  ·
   clear ha43
   try simp only [Q1x, Q2x, Q3x, Q4x, Q5x, Q6x, Q7x, Q8x, Q9x, Q0x, Qax, Qbx] at hb44
   refine wp_cond_false (ha44.ev (x := .tmp 59) rfl) ?_
   refine wp_skip ?_
   refine hK14 _ _ ?_; clear hK14; try clear K14
   refine wp_seq_k (fun K17 hK17 => ?_)
   refine wp_seq_k (fun K18 hK18 => ?_)
   have ha50 : Has 197 [(2, _), (3, _), (4, _), (5, _), (16, _), (19, _), (59, _)] a43 := ha44.only [2, 3, 4, 5, 16, 19, 59]; clear ha44
   have m51 : MemOk _ _ [(1, _), (2, _), (3, _), (20, _), (21, _), (22, _)] _ := m6.only [1, 2, 3, 20, 21, 22]; clear m6
   refine region_m 5 (B := [(1, _), (2, _), (3, _), (20, _), (21, _), (22, _)]) (m51.to ⟨il, il, il, il, il, il, trivial⟩) m51 (by kernel_rfl) (fun w52 mB52 m52 => ?_); clear m51 mB52
   refine dyn 0 ha50 rfl rfl (m52.to ⟨il, il, il, il, il, il, trivial⟩) (fun W => y_fieldAddr ha50 (off := 7) rfl Try.underlying25 rfl (s := 0) (by kernel_rfl) rfl) ?_
   clear ha50 a43; intro a53 ha53
   refine dh 1 ha53 rfl rfl (m52.to ⟨il, il, il, il, il, il, trivial⟩) (fun W hW => y_loadB1 ha53 hW (i := 21) rfl rfl rfl Try.underlying2 rfl) ?_
   clear ha53 a53; intro a54 ha54
   refine dh 2 ha54 rfl rfl (m52.to ⟨il, il, il, il, il, il, trivial⟩) (fun W hW => y_loadBR ha54 hW (i := 20) rfl rfl Try.underlying34 rfl sz34dn4 (by simp) (by dsimp only [List.drop, List.take] <;> rfl)) ?_
   clear ha54 a54; intro a55 ha55
   refine stepE_only 3 rfl (by kernel_rfl) rfl (fun K hK => ?_)
   refine e_call ha55 Try.func21 rfl rfl rfl rfl (rlen_any _ _ _ _ _ _ _ _ _ _ _ _ _ _ _ _ _ _) ?_
   rintro e w56 ⟨rfl, hb56⟩
   rw [List.length_map]
   have m57 := m52.later hb56
   clear m52
   clear hb56
   refine ⟨_, rfl, fun a58 ha58 => ?_⟩; clear ha55 a55
   refine hK _ _ (m57.to ⟨il, il, il, il, il, il, trivial⟩) ?_; clear hK K
   refine dyn 4 ha58 rfl rfl (m57.to ⟨il, il, il, il, il, il, trivial⟩) (fun W => y_gtr ha58 rfl rfl) ?_
   clear ha58 a58; intro a59 ha59
   refine wpAnyE_done (by kernel_rfl) ?_ _
   refine hK18 _ _ ?_; clear hK18; try clear K18
   refine bool_cases ha59 (t := 65) rfl (fun hb60 ha60 => ?_) (fun hb60 ha60 => ?_)
   ·
    clear ha59
    try simp only [Q1x, Q2x, Q3x, Q4x, Q5x, Q6x, Q7x, Q8x, Q9x, Q0x, Qax, Qbx] at hb60
    refine wp_cond_true (ha60.ev (x := .tmp 65) rfl) ?_
    refine wp_seq_k (fun K19 hK19 => ?_)
    refine wp_region_lit ?_
    refine st_y ha60 rfl (y_loadBR ha60 m57 (i := 20) rfl rfl Try.underlying34 rfl sz34dn4 (by simp) (by dsimp only [List.drop, List.take] <;> rfl)) ?_
    clear ha60 a59; intro a61 ha61
    refine wpList_plain rfl (fun K hK => ?_)
    refine e_storeW ha61 m57 22 rfl rfl rfl rfl rfl sz34dn4 ?_
    clear m57; intro w62 m62 hB62
    clear hB62
    refine hK _ _ ?_; clear hK K
    refine st_y ha61 rfl (y_assign ha61 rfl) ?_
    clear ha61 a61; intro a63 ha63
    refine wpList_nil ?_
    refine hK19 _ _ ?_; clear hK19; try clear K19
    refine wp_ret ?_
    try dsimp only [Exit.then, Exit.inBlock]
    refine (retCT (fn := Try.f44) ha63 m62 (i := 22) rfl rfl rfl rfl Try.underlying34 rfl sz34dn4 ?_)
    have m64 := m62.dat 23 rfl (m62.rd (i := 2) rfl); clear m62
    exact ⟨pins, 31, _, _, rfl, by rw [pinR, show reachR hi fl at0 ws.length = 31 from by rw [reachR, if_neg (by simp_all), if_neg (by omega), if_pos (by omega)]]; rfl, m64.ren [(1, 1), (2, 2), (3, 3), (6, 23)] (by decide)⟩
   ·
    clear ha59
    try simp only [Q1x, Q2x, Q3x, Q4x, Q5x, Q6x, Q7x, Q8x, Q9x, Q0x, Qax, Qbx] at hb60
    refine wp_cond_false (ha60.ev (x := .tmp 65) rfl) ?_
    refine wp_skip ?_
    refine hK17 _ _ ?_; clear hK17; try clear K17
    refine wp_seq_k (fun K20 hK20 => ?_)
    refine wp_region_lit ?_
    refine st_y ha60 rfl (y_assign ha60 rfl) ?_
    clear ha60 a59; intro a65 ha65
    refine wpList_nil ?_
    refine hK20 _ _ ?_; clear hK20; try clear K20
    refine wp_seq_k (fun K21 hK21 => ?_)
    refine wp_block ?_
    refine wp_loop_ghost (fun g a w => ∃ (k B8 B9 B10 : Nat), k ≤ pins.length ∧ g = pins.length - k ∧ (∀ j, j < k → pins.getD j 0 ≤ at0) ∧ Has 197 [(2, .pointer (some ⟨B8, 0, none⟩)), (3, .pointer (some ⟨B9, 0, none⟩)), (4, .pointer (some ⟨B10, 0, none⟩)), (6, .int .i64 k)] a ∧ MemOk X w0 [(1, .dat (.slice pp place.length cp) (.ns .i64 place)), (2, .dat (.slice pn pins.length cn9) (.ns .i64 pins)), (3, .dat (.slice pw (ws.map wrD).length cw) (.l 2 (ws.map wrD))), (8, .box B8 34 [.int .i64 vo, .int .i64 bl, .int .i64 sz, .int .i64 pe, .slice pp place.length cp, .int .i64 to, .int .i64 ne, .bool hi, .int .i64 fl, .slice pn pins.length cn9, .slice pw (ws.map wrD).length cw]), (9, .box B9 25 [.int .i64 4, .int .i64 v1, .int .i64 v2, .int .i64 v3, .int .i64 v4, .slice q1 n1 c1, .int .i64 v5, .int .i64 at0, .int .i64 v6, .slice q2 n2 c2]), (10, .box B10 34 [.int .i64 0, .int .i64 0, .int .i64 0, .int .i64 0, .slice none 0 0, .int .i64 0, .int .i64 0, .bool false, .int .i64 0, .slice none 0 0, .slice none 0 0])] w) (pins.length) ?_ ?_
    · exact ⟨0, _, _, _, Nat.zero_le _, rfl, (fun j hj => by omega), ha65.only [2, 3, 4, 6], m57.ren [(1, 1), (2, 2), (3, 3), (8, 20), (9, 21), (10, 22)] (by decide)⟩
    ·
     clear ha65 m57
     rintro g a66 w66 ⟨k, B8, B9, B10, hkl, hg, hall, ha66, m66⟩
     refine wp_seq_k (fun K22 hK22 => ?_)
     refine wp_seq_k (fun K23 hK23 => ?_)
     by_cases hk : k < pins.length
     ·
      obtain ⟨b67, o67, hp67, m67⟩ := m66.openN (i := 2) rfl (k) hk 100 rfl
      cases hp67; clear m66
      have m68 : MemOk _ _ [(1, _), (2, _), (3, _), (8, _), (9, _), (10, _), (100, _)] _ := m67.only [1, 2, 3, 8, 9, 10, 100]; clear m67
      refine region_m 15 (B := [(1, _), (2, _), (3, _), (8, _), (9, _), (10, _), (100, _)]) (m68.to ⟨il, il, il, il, il, il, il, trivial⟩) m68 (by kernel_rfl) (fun w69 mB69 m69 => ?_); clear m68 mB69
      refine dyn 0 ha66 rfl rfl (m69.to ⟨il, il, il, il, il, il, il, trivial⟩) (fun W => y_move ha66 rfl) ?_
      clear ha66 a66; intro a70 ha70
      refine dyn 1 ha70 rfl rfl (m69.to ⟨il, il, il, il, il, il, il, trivial⟩) (fun W => y_fieldAddr ha70 (off := 9) rfl Try.underlying34 rfl (s := 0) (by kernel_rfl) rfl) ?_
      clear ha70 a70; intro a71 ha71
      refine dh 2 ha71 rfl rfl (m69.to ⟨il, il, il, il, il, il, il, trivial⟩) (fun W hW => y_loadB1 ha71 hW (i := 8) rfl rfl rfl Try.underlying31 rfl) ?_
      clear ha71 a71; intro a72 ha72
      refine dyn 3 ha72 rfl rfl (m69.to ⟨il, il, il, il, il, il, il, trivial⟩) (fun W => y_len ha72 rfl Try.underlying31) ?_
      clear ha72 a72; intro a73 ha73
      refine dyn 4 ha73 rfl rfl (m69.to ⟨il, il, il, il, il, il, il, trivial⟩) (fun W => y_lss ha73 rfl rfl) ?_
      clear ha73 a73; intro a74 ha74
      refine dyn 5 ha74 rfl rfl (m69.to ⟨il, il, il, il, il, il, il, trivial⟩) (fun W => y_move ha74 rfl) ?_
      clear ha74 a74; intro a75 ha75
      refine bool_cases ha75 (t := 72) rfl (fun hb76 ha76 => ?_) (fun hb76 ha76 => ?_)
      rotate_left
      · exact absurd hb76 (by simp; omega)
      clear ha75 hb76
      refine dygn 6 ha76 rfl rfl rfl rfl rfl (m69.to ⟨il, il, il, il, il, il, il, trivial⟩) (fun W => y_fieldAddr ha76 (off := 9) rfl Try.underlying34 rfl (s := 0) (by kernel_rfl) rfl) ?_
      clear ha76 a75; intro a77 ha77
      refine dhg 7 ha77 rfl rfl rfl rfl rfl (m69.to ⟨il, il, il, il, il, il, il, trivial⟩) (fun W hW => y_loadB1 ha77 hW (i := 8) rfl rfl rfl Try.underlying31 rfl) ?_
      clear ha77 a77; intro a78 ha78
      refine dygn 8 ha78 rfl rfl rfl rfl rfl (m69.to ⟨il, il, il, il, il, il, il, trivial⟩) (fun W => y_move ha78 rfl) ?_
      clear ha78 a78; intro a79 ha79
      refine dygn 9 ha79 rfl rfl rfl rfl rfl (m69.to ⟨il, il, il, il, il, il, il, trivial⟩) (fun W => y_idx ha79 rfl rfl Try.underlying31 sz2dn4 (k) rfl hk) ?_
      clear ha79 a79; intro a80 ha80
      refine dhg 10 ha80 rfl rfl rfl rfl rfl (m69.to ⟨il, il, il, il, il, il, il, trivial⟩) (fun W hW => y_loadC0 ha80 hW (i := 100) rfl rfl Try.underlying2 rfl) ?_
      clear ha80 a80; intro a81 ha81
      refine dygn 11 ha81 rfl rfl rfl rfl rfl (m69.to ⟨il, il, il, il, il, il, il, trivial⟩) (fun W => y_fieldAddr ha81 (off := 7) rfl Try.underlying25 rfl (s := 0) (by kernel_rfl) rfl) ?_
      clear ha81 a81; intro a82 ha82
      refine dhg 12 ha82 rfl rfl rfl rfl rfl (m69.to ⟨il, il, il, il, il, il, il, trivial⟩) (fun W hW => y_loadB1 ha82 hW (i := 9) rfl rfl rfl Try.underlying2 rfl) ?_
      clear ha82 a82; intro a83 ha83
      refine dygn 13 ha83 rfl rfl rfl rfl rfl (m69.to ⟨il, il, il, il, il, il, il, trivial⟩) (fun W => y_leq ha83 rfl rfl) ?_
      clear ha83 a83; intro a84 ha84
      refine dyn 14 ha84 rfl rfl (m69.to ⟨il, il, il, il, il, il, il, trivial⟩) (fun W => y_pickT ha84 rfl rfl) ?_
      clear ha84 a84; intro a85 ha85
      refine wpAnyE_done (by kernel_rfl) ?_ _
      refine hK23 _ _ ?_; clear hK23; try clear K23
      refine bool_cases ha85 (t := 81) rfl (fun hb86 ha86 => ?_) (fun hb86 ha86 => ?_)
      ·
       clear ha85
       try simp only [Q1x, Q2x, Q3x, Q4x, Q5x, Q6x, Q7x, Q8x, Q9x, Q0x, Qax, Qbx] at hb86
       refine wp_cond_true (ha86.ev (x := .tmp 81) rfl) ?_
       refine wp_skip ?_
       refine hK22 _ _ ?_; clear hK22; try clear K22
       refine wp_block ?_
       have ha87 : Has 197 [(2, _), (3, _), (4, _), (6, _), (72, _), (81, _)] a85 := ha86.only [2, 3, 4, 6, 72, 81]; clear ha86
       refine wp_region_lit ?_
       refine st_y ha87 rfl (y_move ha87 rfl) ?_
       clear ha87 a85; intro a88 ha88
       refine st_y ha88 rfl (y_add ha88 rfl rfl (r := ((k + 1 : Nat) : Int)) (by rw [IntWalk.i64_in _ (by omega)]; omega)) ?_
       clear ha88 a88; intro a89 ha89
       refine st_y ha89 rfl (y_assign ha89 rfl) ?_
       clear ha89 a89; intro a90 ha90
       refine wpList_nil ?_
       show ∃ n', n' < _ ∧ _
       exact ⟨pins.length - (k + 1), by omega, k + 1, _, _, _, by omega, rfl, le_snoc hall (by omega), ha90.only [2, 3, 4, 6], m69.only [1, 2, 3, 8, 9, 10]⟩
      ·
       clear ha85
       try simp only [Q1x, Q2x, Q3x, Q4x, Q5x, Q6x, Q7x, Q8x, Q9x, Q0x, Qax, Qbx] at hb86
       refine wp_cond_false (ha86.ev (x := .tmp 81) rfl) ?_
       refine wp_exit ?_
       refine hK21 _ _ ?_; clear hK21; try clear K21
       have ha91 : Has 197 [(2, _), (3, _), (4, _), (6, _), (72, _), (81, _)] a85 := ha86.only [2, 3, 4, 6, 72, 81]; clear ha86
       have m92 : MemOk _ _ [(1, _), (2, _), (3, _), (8, _), (9, _), (10, _), (100, _)] _ := m69.only [1, 2, 3, 8, 9, 10, 100]; clear m69
       refine region_m 15 (B := [(1, _), (2, _), (3, _), (8, _), (9, _), (10, _), (100, _)]) (m92.to ⟨il, il, il, il, il, il, il, trivial⟩) m92 (by kernel_rfl) (fun w93 mB93 m93 => ?_); clear m92 mB93
       refine dyn 0 ha91 rfl rfl (m93.to ⟨il, il, il, il, il, il, il, trivial⟩) (fun W => y_fieldAddr ha91 (off := 9) rfl Try.underlying34 rfl (s := 0) (by kernel_rfl) rfl) ?_
       clear ha91 a85; intro a94 ha94
       refine dr 1 ha94 rfl rfl (m93.to ⟨il, il, il, il, il, il, il, trivial⟩) (fun W hW => y_loadB1 ha94 hW (i := 8) rfl rfl rfl Try.underlying31 rfl) ?_
       clear ha94 a94; intro a95 ha95
       refine dyn 2 ha95 rfl rfl (m93.to ⟨il, il, il, il, il, il, il, trivial⟩) (fun W => y_move ha95 rfl) ?_
       clear ha95 a95; intro a96 ha96
       have hcap97 := (m93.rd (i := 2) rfl).ns_out.cap
       have m97 := m93.takeN (i := 2) rfl (k) hkl 101 rfl; clear m93
       refine dyn 3 ha96 rfl rfl (m97.to ⟨il, il, il, il, il, il, il, trivial⟩) (fun W => y_sliceHn ha96 (k) rfl rfl Try.underlying31 sz2dn4 rfl (Nat.le_trans hkl hcap97.1)) ?_
       clear ha96 a96; intro a98 ha98
       refine dyn 5 ha98 rfl rfl (m97.to ⟨il, il, il, il, il, il, il, trivial⟩) (fun W => y_fieldAddr ha98 (off := 7) rfl Try.underlying25 rfl (s := 0) (by kernel_rfl) rfl) ?_
       clear ha98 a98; intro a99 ha99
       refine dr 6 ha99 rfl rfl (m97.to ⟨il, il, il, il, il, il, il, trivial⟩) (fun W hW => y_loadB1 ha99 hW (i := 9) rfl rfl rfl Try.underlying2 rfl) ?_
       clear ha99 a99; intro a100 ha100
       refine dyn 9 ha100 rfl rfl (m97.to ⟨il, il, il, il, il, il, il, trivial⟩) (fun W => y_fieldAddr ha100 (off := 9) rfl Try.underlying34 rfl (s := 0) (by kernel_rfl) rfl) ?_
       clear ha100 a100; intro a101 ha101
       refine dr 10 ha101 rfl rfl (m97.to ⟨il, il, il, il, il, il, il, trivial⟩) (fun W hW => y_loadB1 ha101 hW (i := 8) rfl rfl rfl Try.underlying31 rfl) ?_
       clear ha101 a101; intro a102 ha102
       refine dyn 11 ha102 rfl rfl (m97.to ⟨il, il, il, il, il, il, il, trivial⟩) (fun W => y_move ha102 rfl) ?_
       clear ha102 a102; intro a103 ha103
       have m104 := m97.dropN (i := 2) rfl (k) hkl 102 rfl; clear m97
       refine dyn 12 ha103 rfl rfl (m104.to ⟨il, il, il, il, il, il, il, trivial⟩) (fun W => y_sliceLn ha103 (k) rfl rfl Try.underlying31 sz2dn4 rfl hkl) ?_
       clear ha103 a103; intro a105 ha105
       refine d_two 4 7 rfl rfl (by kernel_rfl) rfl rfl (fun K hK => ?_) (fun K hK => ?_)
       ·
        refine e_app0N ha105 m104 103 rfl rfl (m104.nums (i := 101) rfl) Try.underlying31 inf2dn4 (by decide) (by simp; omega) rfl ?_
        clear ha105 a105 m104; intro p106 c106 a107 w107 ha107 m107
        refine hK _ _ (fun _ => (m107.to ⟨il, il, il, il, il, il, il, trivial⟩)) ?_; clear hK K
        refine stepE_only 7 rfl (by kernel_rfl) rfl (fun K hK => ?_)
        refine e_litN ha107 m107 104 (k := .i64) rfl rfl Try.underlying31 inf2dn4 rfl rfl rfl rfl ?_
        clear ha107 a107 m107; intro g108 a109 w109 ha109 m109
        refine hK _ _ (m109.to ⟨il, il, il, il, il, il, il, trivial⟩) ?_; clear hK K
        refine stepE_only 8 rfl (by kernel_rfl) rfl (fun K hK => ?_)
        refine e_appN ha109 m109 103 rfl rfl rfl (m109.numsO (i := 104) rfl) Try.underlying31 inf2dn4 (by decide) (by simp; omega) rfl ?_
        clear ha109 a109 m109; intro p110 c110 a111 w111 ha111 m111
        refine hK _ _ (m111.to ⟨il, il, il, il, il, il, il, trivial⟩) ?_; clear hK K
        refine stepE_only 13 rfl (by kernel_rfl) rfl (fun K hK => ?_)
        refine e_appN ha111 m111 103 rfl rfl rfl (m111.nums (i := 102) rfl) Try.underlying31 inf2dn4 (by decide) (by simp; omega) rfl ?_
        clear ha111 a111 m111; intro p112 c112 a113 w113 ha113 m113
        refine hK _ _ (m113.to ⟨il, il, il, il, il, il, il, trivial⟩) ?_; clear hK K
        refine dyn 14 ha113 rfl rfl (m113.to ⟨il, il, il, il, il, il, il, trivial⟩) (fun W => y_fieldAddr ha113 (off := 9) rfl Try.underlying34 rfl (s := 0) (by kernel_rfl) rfl) ?_
        clear ha113 a113; intro a114 ha114
        refine stepE_end 15 rfl (by kernel_rfl) rfl (by rfl) (fun K hK => ?_)
        refine e_store1 ha114 m113 8 rfl rfl rfl rfl rfl sz31dn4 (by dsimp only [List.set] <;> rfl) ?_
        clear m113; intro w115 m115 hB115
        clear hB115
        refine hK _ _ ?_; clear hK K
        refine wpAnyE_done (by kernel_rfl) ?_ _
        refine hK9 _ _ ?_; clear hK9; try clear K9
        refine wp_seq_k (fun K24 hK24 => ?_)
        have ha116 : Has 197 [(2, _), (3, _), (4, _), (6, _), (72, _), (81, _)] a114 := ha114.only [2, 3, 4, 6, 72, 81]; clear ha114
        refine wp_region_lit ?_
        refine st_y ha116 rfl (y_loadBR ha116 m115 (i := 8) rfl rfl Try.underlying34 rfl sz34dn4 (by simp) (by dsimp only [List.drop, List.take] <;> rfl)) ?_
        clear ha116 a114; intro a117 ha117
        refine wpList_plain rfl (fun K hK => ?_)
        refine e_storeW ha117 m115 10 rfl rfl rfl rfl rfl sz34dn4 ?_
        clear m115; intro w118 m118 hB118
        clear hB118
        refine hK _ _ ?_; clear hK K
        refine st_y ha117 rfl (y_assign ha117 rfl) ?_
        clear ha117 a117; intro a119 ha119
        refine wpList_nil ?_
        refine hK24 _ _ ?_; clear hK24; try clear K24
        refine wp_ret ?_
        try dsimp only [Exit.then, Exit.inBlock]
        refine (retCT (fn := Try.f44) ha119 m118 (i := 10) rfl rfl rfl rfl Try.underlying34 rfl sz34dn4 ?_)
        have m120 := m118.freezeN 103 rfl; clear m118
        have hS := pin_sorted (k := k) hsp hall (by omega) (by omega)
        rw [hS] at m120 ⊢
        exact ⟨sortP (pins ++ [at0]), 0, _, _, rfl, by rw [pinR, show reachR hi fl at0 ws.length = 0 from by rw [reachR, if_neg (by simp_all), if_neg (by omega), if_neg (by omega)]]; rfl, m120.ren [(1, 1), (2, 2), (3, 3), (6, 103)] (by decide)⟩
       ·
        refine e_litN ha105 m104 103 (k := .i64) rfl rfl Try.underlying31 inf2dn4 rfl rfl rfl rfl ?_
        clear ha105 a105 m104; intro g121 a122 w122 ha122 m122
        refine hK _ _ (fun _ => (m122.to ⟨il, il, il, il, il, il, il, trivial⟩)) ?_; clear hK K
        refine stepE_only 4 rfl (by kernel_rfl) rfl (fun K hK => ?_)
        refine e_app0N ha122 m122 104 rfl rfl (m122.nums (i := 101) rfl) Try.underlying31 inf2dn4 (by decide) (by simp; omega) rfl ?_
        clear ha122 a122 m122; intro p123 c123 a124 w124 ha124 m124
        refine hK _ _ (m124.to ⟨il, il, il, il, il, il, il, trivial⟩) ?_; clear hK K
        refine stepE_only 8 rfl (by kernel_rfl) rfl (fun K hK => ?_)
        refine e_appN ha124 m124 104 rfl rfl rfl (m124.numsO (i := 103) rfl) Try.underlying31 inf2dn4 (by decide) (by simp; omega) rfl ?_
        clear ha124 a124 m124; intro p125 c125 a126 w126 ha126 m126
        refine hK _ _ (m126.to ⟨il, il, il, il, il, il, il, trivial⟩) ?_; clear hK K
        refine stepE_only 13 rfl (by kernel_rfl) rfl (fun K hK => ?_)
        refine e_appN ha126 m126 104 rfl rfl rfl (m126.nums (i := 102) rfl) Try.underlying31 inf2dn4 (by decide) (by simp; omega) rfl ?_
        clear ha126 a126 m126; intro p127 c127 a128 w128 ha128 m128
        refine hK _ _ (m128.to ⟨il, il, il, il, il, il, il, trivial⟩) ?_; clear hK K
        refine dyn 14 ha128 rfl rfl (m128.to ⟨il, il, il, il, il, il, il, trivial⟩) (fun W => y_fieldAddr ha128 (off := 9) rfl Try.underlying34 rfl (s := 0) (by kernel_rfl) rfl) ?_
        clear ha128 a128; intro a129 ha129
        refine stepE_end 15 rfl (by kernel_rfl) rfl (by rfl) (fun K hK => ?_)
        refine e_store1 ha129 m128 8 rfl rfl rfl rfl rfl sz31dn4 (by dsimp only [List.set] <;> rfl) ?_
        clear m128; intro w130 m130 hB130
        clear hB130
        refine hK _ _ ?_; clear hK K
        refine wpAnyE_done (by kernel_rfl) ?_ _
        refine hK9 _ _ ?_; clear hK9; try clear K9
        refine wp_seq_k (fun K25 hK25 => ?_)
        have ha131 : Has 197 [(2, _), (3, _), (4, _), (6, _), (72, _), (81, _)] a129 := ha129.only [2, 3, 4, 6, 72, 81]; clear ha129
        refine wp_region_lit ?_
        refine st_y ha131 rfl (y_loadBR ha131 m130 (i := 8) rfl rfl Try.underlying34 rfl sz34dn4 (by simp) (by dsimp only [List.drop, List.take] <;> rfl)) ?_
        clear ha131 a129; intro a132 ha132
        refine wpList_plain rfl (fun K hK => ?_)
        refine e_storeW ha132 m130 10 rfl rfl rfl rfl rfl sz34dn4 ?_
        clear m130; intro w133 m133 hB133
        clear hB133
        refine hK _ _ ?_; clear hK K
        refine st_y ha132 rfl (y_assign ha132 rfl) ?_
        clear ha132 a132; intro a134 ha134
        refine wpList_nil ?_
        refine hK25 _ _ ?_; clear hK25; try clear K25
        refine wp_ret ?_
        try dsimp only [Exit.then, Exit.inBlock]
        refine (retCT (fn := Try.f44) ha134 m133 (i := 10) rfl rfl rfl rfl Try.underlying34 rfl sz34dn4 ?_)
        have m135 := m133.freezeN 104 rfl; clear m133
        have hS := pin_sorted (k := k) hsp hall (by omega) (by omega)
        rw [hS] at m135 ⊢
        exact ⟨sortP (pins ++ [at0]), 0, _, _, rfl, by rw [pinR, show reachR hi fl at0 ws.length = 0 from by rw [reachR, if_neg (by simp_all), if_neg (by omega), if_neg (by omega)]]; rfl, m135.ren [(1, 1), (2, 2), (3, 3), (6, 104)] (by decide)⟩
     ·
      have hk9 : k = pins.length := by omega
      have m136 : MemOk _ _ [(1, _), (2, _), (3, _), (8, _), (9, _), (10, _)] _ := m66.only [1, 2, 3, 8, 9, 10]; clear m66
      refine region_m 15 (B := [(1, _), (2, _), (3, _), (8, _), (9, _), (10, _)]) (m136.to ⟨il, il, il, il, il, il, trivial⟩) m136 (by kernel_rfl) (fun w137 mB137 m137 => ?_); clear m136 mB137
      refine dyn 0 ha66 rfl rfl (m137.to ⟨il, il, il, il, il, il, trivial⟩) (fun W => y_move ha66 rfl) ?_
      clear ha66 a66; intro a138 ha138
      refine dyn 1 ha138 rfl rfl (m137.to ⟨il, il, il, il, il, il, trivial⟩) (fun W => y_fieldAddr ha138 (off := 9) rfl Try.underlying34 rfl (s := 0) (by kernel_rfl) rfl) ?_
      clear ha138 a138; intro a139 ha139
      refine dh 2 ha139 rfl rfl (m137.to ⟨il, il, il, il, il, il, trivial⟩) (fun W hW => y_loadB1 ha139 hW (i := 8) rfl rfl rfl Try.underlying31 rfl) ?_
      clear ha139 a139; intro a140 ha140
      refine dyn 3 ha140 rfl rfl (m137.to ⟨il, il, il, il, il, il, trivial⟩) (fun W => y_len ha140 rfl Try.underlying31) ?_
      clear ha140 a140; intro a141 ha141
      refine dyn 4 ha141 rfl rfl (m137.to ⟨il, il, il, il, il, il, trivial⟩) (fun W => y_lss ha141 rfl rfl) ?_
      clear ha141 a141; intro a142 ha142
      refine dyn 5 ha142 rfl rfl (m137.to ⟨il, il, il, il, il, il, trivial⟩) (fun W => y_move ha142 rfl) ?_
      clear ha142 a142; intro a143 ha143
      refine bool_cases ha143 (t := 72) rfl (fun hb144 ha144 => ?_) (fun hb144 ha144 => ?_)
      · exact absurd hb144 (by simp; omega)
      clear ha143 hb144
      refine dskipn 6 ha144 rfl rfl rfl rfl rfl (m137.to ⟨il, il, il, il, il, il, trivial⟩) ?_
      clear ha144 a143; intro a145 ha145
      refine dskipn 7 ha145 rfl rfl rfl rfl rfl (m137.to ⟨il, il, il, il, il, il, trivial⟩) ?_
      clear ha145 a145; intro a146 ha146
      refine dskipn 8 ha146 rfl rfl rfl rfl rfl (m137.to ⟨il, il, il, il, il, il, trivial⟩) ?_
      clear ha146 a146; intro a147 ha147
      refine dskipn 9 ha147 rfl rfl rfl rfl rfl (m137.to ⟨il, il, il, il, il, il, trivial⟩) ?_
      clear ha147 a147; intro a148 ha148
      refine dskipn 10 ha148 rfl rfl rfl rfl rfl (m137.to ⟨il, il, il, il, il, il, trivial⟩) ?_
      clear ha148 a148; intro a149 ha149
      refine dskipn 11 ha149 rfl rfl rfl rfl rfl (m137.to ⟨il, il, il, il, il, il, trivial⟩) ?_
      clear ha149 a149; intro a150 ha150
      refine dskipn 12 ha150 rfl rfl rfl rfl rfl (m137.to ⟨il, il, il, il, il, il, trivial⟩) ?_
      clear ha150 a150; intro a151 ha151
      refine dskipn 13 ha151 rfl rfl rfl rfl rfl (m137.to ⟨il, il, il, il, il, il, trivial⟩) ?_
      clear ha151 a151; intro a152 ha152
      refine dyn 14 ha152 rfl rfl (m137.to ⟨il, il, il, il, il, il, trivial⟩) (fun W => y_pickF ha152 rfl rfl) ?_
      clear ha152 a152; intro a153 ha153
      refine wpAnyE_done (by kernel_rfl) ?_ _
      refine hK23 _ _ ?_; clear hK23; try clear K23
      refine wp_cond_false (ha153.ev (x := .tmp 81) rfl) ?_
      refine wp_exit ?_
      refine hK21 _ _ ?_; clear hK21; try clear K21
      have ha154 : Has 197 [(2, _), (3, _), (4, _), (6, _), (72, _), (81, _)] a153 := ha153.only [2, 3, 4, 6, 72, 81]; clear ha153
      have m155 : MemOk _ _ [(1, _), (2, _), (3, _), (8, _), (9, _), (10, _)] _ := m137.only [1, 2, 3, 8, 9, 10]; clear m137
      refine region_m 15 (B := [(1, _), (2, _), (3, _), (8, _), (9, _), (10, _)]) (m155.to ⟨il, il, il, il, il, il, trivial⟩) m155 (by kernel_rfl) (fun w156 mB156 m156 => ?_); clear m155 mB156
      refine dyn 0 ha154 rfl rfl (m156.to ⟨il, il, il, il, il, il, trivial⟩) (fun W => y_fieldAddr ha154 (off := 9) rfl Try.underlying34 rfl (s := 0) (by kernel_rfl) rfl) ?_
      clear ha154 a153; intro a157 ha157
      refine dr 1 ha157 rfl rfl (m156.to ⟨il, il, il, il, il, il, trivial⟩) (fun W hW => y_loadB1 ha157 hW (i := 8) rfl rfl rfl Try.underlying31 rfl) ?_
      clear ha157 a157; intro a158 ha158
      refine dyn 2 ha158 rfl rfl (m156.to ⟨il, il, il, il, il, il, trivial⟩) (fun W => y_move ha158 rfl) ?_
      clear ha158 a158; intro a159 ha159
      have hcap160 := (m156.rd (i := 2) rfl).ns_out.cap
      have m160 := m156.takeN (i := 2) rfl (k) hkl 100 rfl; clear m156
      refine dyn 3 ha159 rfl rfl (m160.to ⟨il, il, il, il, il, il, trivial⟩) (fun W => y_sliceHn ha159 (k) rfl rfl Try.underlying31 sz2dn4 rfl (Nat.le_trans hkl hcap160.1)) ?_
      clear ha159 a159; intro a161 ha161
      refine dyn 5 ha161 rfl rfl (m160.to ⟨il, il, il, il, il, il, trivial⟩) (fun W => y_fieldAddr ha161 (off := 7) rfl Try.underlying25 rfl (s := 0) (by kernel_rfl) rfl) ?_
      clear ha161 a161; intro a162 ha162
      refine dr 6 ha162 rfl rfl (m160.to ⟨il, il, il, il, il, il, trivial⟩) (fun W hW => y_loadB1 ha162 hW (i := 9) rfl rfl rfl Try.underlying2 rfl) ?_
      clear ha162 a162; intro a163 ha163
      refine dyn 9 ha163 rfl rfl (m160.to ⟨il, il, il, il, il, il, trivial⟩) (fun W => y_fieldAddr ha163 (off := 9) rfl Try.underlying34 rfl (s := 0) (by kernel_rfl) rfl) ?_
      clear ha163 a163; intro a164 ha164
      refine dr 10 ha164 rfl rfl (m160.to ⟨il, il, il, il, il, il, trivial⟩) (fun W hW => y_loadB1 ha164 hW (i := 8) rfl rfl rfl Try.underlying31 rfl) ?_
      clear ha164 a164; intro a165 ha165
      refine dyn 11 ha165 rfl rfl (m160.to ⟨il, il, il, il, il, il, trivial⟩) (fun W => y_move ha165 rfl) ?_
      clear ha165 a165; intro a166 ha166
      have m167 := m160.dropN (i := 2) rfl (k) hkl 101 rfl; clear m160
      refine dyn 12 ha166 rfl rfl (m167.to ⟨il, il, il, il, il, il, trivial⟩) (fun W => y_sliceLn ha166 (k) rfl rfl Try.underlying31 sz2dn4 rfl hkl) ?_
      clear ha166 a166; intro a168 ha168
      refine d_two 4 7 rfl rfl (by kernel_rfl) rfl rfl (fun K hK => ?_) (fun K hK => ?_)
      ·
       refine e_app0N ha168 m167 102 rfl rfl (m167.nums (i := 100) rfl) Try.underlying31 inf2dn4 (by decide) (by simp; omega) rfl ?_
       clear ha168 a168 m167; intro p169 c169 a170 w170 ha170 m170
       refine hK _ _ (fun _ => (m170.to ⟨il, il, il, il, il, il, trivial⟩)) ?_; clear hK K
       refine stepE_only 7 rfl (by kernel_rfl) rfl (fun K hK => ?_)
       refine e_litN ha170 m170 103 (k := .i64) rfl rfl Try.underlying31 inf2dn4 rfl rfl rfl rfl ?_
       clear ha170 a170 m170; intro g171 a172 w172 ha172 m172
       refine hK _ _ (m172.to ⟨il, il, il, il, il, il, trivial⟩) ?_; clear hK K
       refine stepE_only 8 rfl (by kernel_rfl) rfl (fun K hK => ?_)
       refine e_appN ha172 m172 102 rfl rfl rfl (m172.numsO (i := 103) rfl) Try.underlying31 inf2dn4 (by decide) (by simp; omega) rfl ?_
       clear ha172 a172 m172; intro p173 c173 a174 w174 ha174 m174
       refine hK _ _ (m174.to ⟨il, il, il, il, il, il, trivial⟩) ?_; clear hK K
       refine stepE_only 13 rfl (by kernel_rfl) rfl (fun K hK => ?_)
       refine e_appN ha174 m174 102 rfl rfl rfl (m174.nums (i := 101) rfl) Try.underlying31 inf2dn4 (by decide) (by simp; omega) rfl ?_
       clear ha174 a174 m174; intro p175 c175 a176 w176 ha176 m176
       refine hK _ _ (m176.to ⟨il, il, il, il, il, il, trivial⟩) ?_; clear hK K
       refine dyn 14 ha176 rfl rfl (m176.to ⟨il, il, il, il, il, il, trivial⟩) (fun W => y_fieldAddr ha176 (off := 9) rfl Try.underlying34 rfl (s := 0) (by kernel_rfl) rfl) ?_
       clear ha176 a176; intro a177 ha177
       refine stepE_end 15 rfl (by kernel_rfl) rfl (by rfl) (fun K hK => ?_)
       refine e_store1 ha177 m176 8 rfl rfl rfl rfl rfl sz31dn4 (by dsimp only [List.set] <;> rfl) ?_
       clear m176; intro w178 m178 hB178
       clear hB178
       refine hK _ _ ?_; clear hK K
       refine wpAnyE_done (by kernel_rfl) ?_ _
       refine hK9 _ _ ?_; clear hK9; try clear K9
       refine wp_seq_k (fun K26 hK26 => ?_)
       have ha179 : Has 197 [(2, _), (3, _), (4, _), (6, _), (72, _), (81, _)] a177 := ha177.only [2, 3, 4, 6, 72, 81]; clear ha177
       refine wp_region_lit ?_
       refine st_y ha179 rfl (y_loadBR ha179 m178 (i := 8) rfl rfl Try.underlying34 rfl sz34dn4 (by simp) (by dsimp only [List.drop, List.take] <;> rfl)) ?_
       clear ha179 a177; intro a180 ha180
       refine wpList_plain rfl (fun K hK => ?_)
       refine e_storeW ha180 m178 10 rfl rfl rfl rfl rfl sz34dn4 ?_
       clear m178; intro w181 m181 hB181
       clear hB181
       refine hK _ _ ?_; clear hK K
       refine st_y ha180 rfl (y_assign ha180 rfl) ?_
       clear ha180 a180; intro a182 ha182
       refine wpList_nil ?_
       refine hK26 _ _ ?_; clear hK26; try clear K26
       refine wp_ret ?_
       try dsimp only [Exit.then, Exit.inBlock]
       refine (retCT (fn := Try.f44) ha182 m181 (i := 10) rfl rfl rfl rfl Try.underlying34 rfl sz34dn4 ?_)
       have m183 := m181.freezeN 102 rfl; clear m181
       have hS := pin_sorted (k := k) hsp hall (by omega) (by omega)
       rw [hS] at m183 ⊢
       exact ⟨sortP (pins ++ [at0]), 0, _, _, rfl, by rw [pinR, show reachR hi fl at0 ws.length = 0 from by rw [reachR, if_neg (by simp_all), if_neg (by omega), if_neg (by omega)]]; rfl, m183.ren [(1, 1), (2, 2), (3, 3), (6, 102)] (by decide)⟩
      ·
       refine e_litN ha168 m167 102 (k := .i64) rfl rfl Try.underlying31 inf2dn4 rfl rfl rfl rfl ?_
       clear ha168 a168 m167; intro g184 a185 w185 ha185 m185
       refine hK _ _ (fun _ => (m185.to ⟨il, il, il, il, il, il, trivial⟩)) ?_; clear hK K
       refine stepE_only 4 rfl (by kernel_rfl) rfl (fun K hK => ?_)
       refine e_app0N ha185 m185 103 rfl rfl (m185.nums (i := 100) rfl) Try.underlying31 inf2dn4 (by decide) (by simp; omega) rfl ?_
       clear ha185 a185 m185; intro p186 c186 a187 w187 ha187 m187
       refine hK _ _ (m187.to ⟨il, il, il, il, il, il, trivial⟩) ?_; clear hK K
       refine stepE_only 8 rfl (by kernel_rfl) rfl (fun K hK => ?_)
       refine e_appN ha187 m187 103 rfl rfl rfl (m187.numsO (i := 102) rfl) Try.underlying31 inf2dn4 (by decide) (by simp; omega) rfl ?_
       clear ha187 a187 m187; intro p188 c188 a189 w189 ha189 m189
       refine hK _ _ (m189.to ⟨il, il, il, il, il, il, trivial⟩) ?_; clear hK K
       refine stepE_only 13 rfl (by kernel_rfl) rfl (fun K hK => ?_)
       refine e_appN ha189 m189 103 rfl rfl rfl (m189.nums (i := 101) rfl) Try.underlying31 inf2dn4 (by decide) (by simp; omega) rfl ?_
       clear ha189 a189 m189; intro p190 c190 a191 w191 ha191 m191
       refine hK _ _ (m191.to ⟨il, il, il, il, il, il, trivial⟩) ?_; clear hK K
       refine dyn 14 ha191 rfl rfl (m191.to ⟨il, il, il, il, il, il, trivial⟩) (fun W => y_fieldAddr ha191 (off := 9) rfl Try.underlying34 rfl (s := 0) (by kernel_rfl) rfl) ?_
       clear ha191 a191; intro a192 ha192
       refine stepE_end 15 rfl (by kernel_rfl) rfl (by rfl) (fun K hK => ?_)
       refine e_store1 ha192 m191 8 rfl rfl rfl rfl rfl sz31dn4 (by dsimp only [List.set] <;> rfl) ?_
       clear m191; intro w193 m193 hB193
       clear hB193
       refine hK _ _ ?_; clear hK K
       refine wpAnyE_done (by kernel_rfl) ?_ _
       refine hK9 _ _ ?_; clear hK9; try clear K9
       refine wp_seq_k (fun K27 hK27 => ?_)
       have ha194 : Has 197 [(2, _), (3, _), (4, _), (6, _), (72, _), (81, _)] a192 := ha192.only [2, 3, 4, 6, 72, 81]; clear ha192
       refine wp_region_lit ?_
       refine st_y ha194 rfl (y_loadBR ha194 m193 (i := 8) rfl rfl Try.underlying34 rfl sz34dn4 (by simp) (by dsimp only [List.drop, List.take] <;> rfl)) ?_
       clear ha194 a192; intro a195 ha195
       refine wpList_plain rfl (fun K hK => ?_)
       refine e_storeW ha195 m193 10 rfl rfl rfl rfl rfl sz34dn4 ?_
       clear m193; intro w196 m196 hB196
       clear hB196
       refine hK _ _ ?_; clear hK K
       refine st_y ha195 rfl (y_assign ha195 rfl) ?_
       clear ha195 a195; intro a197 ha197
       refine wpList_nil ?_
       refine hK27 _ _ ?_; clear hK27; try clear K27
       refine wp_ret ?_
       try dsimp only [Exit.then, Exit.inBlock]
       refine (retCT (fn := Try.f44) ha197 m196 (i := 10) rfl rfl rfl rfl Try.underlying34 rfl sz34dn4 ?_)
       have m198 := m196.freezeN 103 rfl; clear m196
       have hS := pin_sorted (k := k) hsp hall (by omega) (by omega)
       rw [hS] at m198 ⊢
       exact ⟨sortP (pins ++ [at0]), 0, _, _, rfl, by rw [pinR, show reachR hi fl at0 ws.length = 0 from by rw [reachR, if_neg (by simp_all), if_neg (by omega), if_neg (by omega)]]; rfl, m198.ren [(1, 1), (2, 2), (3, 3), (6, 103)] (by decide)⟩
theorem rdone5 (X : Cx) (vo bl sz pe to ne fl : Int) (hi : Bool) (place pins : List Int) (ws : List (Int × List (Int × List Int))) (pp pn pw : Option Addr) (cp cn9 cw : Nat) (v1 v2 v3 v4 v5 at0 v6 : Int) (q1 : Option Addr) (n1 c1 : Nat) (q2 : Option Addr) (n2 c2 : Nat) (w0 : World) (hp : pins.length ≤ 900000) (m0 : MemOk X w0 [(1, .dat (.slice pp place.length cp) (.ns .i64 place)), (2, .dat (.slice pn pins.length cn9) (.ns .i64 pins)), (3, .dat (.slice pw (ws.map wrD).length cw) (.l 2 (ws.map wrD)))] w0) :
   Calls Try.prog 44 #[.agg #[.int .i64 vo, .int .i64 bl, .int .i64 sz, .int .i64 pe, .slice pp place.length cp, .int .i64 to, .int .i64 ne, .bool hi, .int .i64 fl, .slice pn pins.length cn9, .slice pw (ws.map wrD).length cw], .agg #[.int .i64 5, .int .i64 v1, .int .i64 v2, .int .i64 v3, .int .i64 v4, .slice q1 n1 c1, .int .i64 v5, .int .i64 at0, .int .i64 v6, .slice q2 n2 c2]] w0 fun e w' => ∃ (pins' : List Int) (e9 : Int) (p2' : Option Addr) (d2' : Nat), e = .returned (.tuple #[.agg #[.int .i64 vo, .int .i64 bl, .int .i64 sz, .int .i64 pe, .slice pp place.length cp, .int .i64 to, .int .i64 ne, .bool hi, .int .i64 fl, .slice p2' pins'.length d2', .slice pw (ws.map wrD).length cw], .int .i64 e9]) ∧ unpinR hi at0 pins = (pins', e9) ∧ MemOk X w0 [(1, .dat (.slice pp place.length cp) (.ns .i64 place)), (2, .dat (.slice pn pins.length cn9) (.ns .i64 pins)), (3, .dat (.slice pw (ws.map wrD).length cw) (.l 2 (ws.map wrD))), (6, .dat (.slice p2' pins'.length d2') (.ns .i64 pins'))] w' := by
 refine enter (fn := Try.f44) Try.func44 rfl Try.ntmps44 rfl (fun a0 ha0 => ?_)
 simp only [List.zipIdx_cons, List.zipIdx_nil, List.map_cons, List.map_nil, Nat.reduceAdd, Nat.zero_add] at ha0
 refine wp_seq_k (fun K0 hK0 => ?_)
 refine wp_region_lit ?_
 refine wpList_plain rfl (fun K hK => ?_)
 refine e_box ha0 m0 20 (cs := [_, _, _, _, _, _, _, _, _, _, _]) rfl rfl rfl ?_
 clear ha0 a0 m0; intro g1 a2 w2 ha2 m2 hB2 hg2
 clear hB2 hg2
 refine hK _ _ ?_; clear hK K
 refine wpList_plain rfl (fun K hK => ?_)
 refine e_box ha2 m2 21 (cs := [_, _, _, _, _, _, _, _, _, _]) rfl rfl rfl ?_
 clear ha2 a2 m2; intro g3 a4 w4 ha4 m4 hB4 hg4
 clear hB4 hg4
 refine hK _ _ ?_; clear hK K
 refine wpList_plain rfl (fun K hK => ?_)
 refine e_alloc ha4 m4 22 zc34dn5 rfl ?_
 clear ha4 a4 m4; intro g5 a6 w6 ha6 m6 hB6 hg6
 clear hB6 hg6
 refine hK _ _ ?_; clear hK K
 refine st_y ha6 rfl (y_assign ha6 rfl) ?_
 clear ha6 a6; intro a7 ha7
 refine wpList_nil ?_
 refine hK0 _ _ ?_; clear hK0; try clear K0
 refine wp_seq_k (fun K1 hK1 => ?_)
 refine wp_seq_k (fun K2 hK2 => ?_)
 refine wp_region_lit ?_
 refine st_y ha7 rfl (y_fieldAddr ha7 (off := 0) rfl Try.underlying25 rfl (s := 0) (by kernel_rfl) rfl) ?_
 clear ha7 a7; intro a8 ha8
 refine st_y ha8 rfl (y_loadB1 ha8 m6 (i := 21) rfl rfl rfl Try.underlying3 rfl) ?_
 clear ha8 a8; intro a9 ha9
 refine wpList_nil ?_
 refine hK2 _ _ ?_; clear hK2; try clear K2
 refine wp_block ?_
 refine wp_seq_k (fun K3 hK3 => ?_)
 refine wp_seq_k (fun K4 hK4 => ?_)
 refine wp_region_lit ?_
 refine st_y ha9 rfl (y_eql ha9 rfl rfl) ?_
 clear ha9 a9; intro a10 ha10
 refine st_y ha10 rfl (y_assign ha10 rfl) ?_
 clear ha10 a10; intro a11 ha11
 refine wpList_nil ?_
 refine hK4 _ _ ?_; clear hK4; try clear K4
 refine bool_cases ha11 (t := 10) rfl (fun hb12 ha12 => ?_) (fun hb12 ha12 => ?_)
 · exact absurd hb12 (by simp)
 clear ha11 hb12
 refine wp_cond_false (ha12.ev (x := .tmp 10) rfl) ?_
 refine wp_seq_k (fun K5 hK5 => ?_)
 refine wp_region_lit ?_
 refine st_y ha12 rfl (y_eql ha12 rfl rfl) ?_
 clear ha12 a11; intro a13 ha13
 refine st_y ha13 rfl (y_assign ha13 rfl) ?_
 clear ha13 a13; intro a14 ha14
 refine wpList_nil ?_
 refine hK5 _ _ ?_; clear hK5; try clear K5
 refine bool_cases ha14 (t := 10) rfl (fun hb15 ha15 => ?_) (fun hb15 ha15 => ?_)
 · exact absurd hb15 (by simp)
 clear ha14 hb15
 refine wp_cond_false (ha15.ev (x := .tmp 10) rfl) ?_
 refine wp_seq_k (fun K6 hK6 => ?_)
 refine wp_region_lit ?_
 refine st_y ha15 rfl (y_eql ha15 rfl rfl) ?_
 clear ha15 a14; intro a16 ha16
 refine st_y ha16 rfl (y_assign ha16 rfl) ?_
 clear ha16 a16; intro a17 ha17
 refine wpList_nil ?_
 refine hK6 _ _ ?_; clear hK6; try clear K6
 refine bool_cases ha17 (t := 10) rfl (fun hb18 ha18 => ?_) (fun hb18 ha18 => ?_)
 · exact absurd hb18 (by simp)
 clear ha17 hb18
 refine wp_cond_false (ha18.ev (x := .tmp 10) rfl) ?_
 have ha19 : Has 197 [(2, _), (3, _), (4, _), (5, _), (9, _), (10, _)] a17 := ha18.only [2, 3, 4, 5, 9, 10]; clear ha18
 refine wp_region_lit ?_
 refine st_y ha19 rfl (y_eql ha19 rfl rfl) ?_
 clear ha19 a17; intro a20 ha20
 refine st_y ha20 rfl (y_assign ha20 rfl) ?_
 clear ha20 a20; intro a21 ha21
 refine wpList_nil ?_
 refine hK3 _ _ ?_; clear hK3; try clear K3
 refine bool_cases ha21 (t := 10) rfl (fun hb22 ha22 => ?_) (fun hb22 ha22 => ?_)
 rotate_left
 · exact absurd hb22 (by simp)
 clear ha21 hb22
 refine wp_cond_true (ha22.ev (x := .tmp 10) rfl) ?_
 refine wp_seq_k (fun K7 hK7 => ?_)
 refine wp_region_lit ?_
 refine st_y ha22 rfl (y_fieldAddr ha22 (off := 7) rfl Try.underlying34 rfl (s := 0) (by kernel_rfl) rfl) ?_
 clear ha22 a21; intro a23 ha23
 refine st_y ha23 rfl (y_loadB1 ha23 m6 (i := 20) rfl rfl rfl Try.underlying4 rfl) ?_
 clear ha23 a23; intro a24 ha24
 refine wpList_nil ?_
 refine hK7 _ _ ?_; clear hK7; try clear K7
 refine bool_cases ha24 (t := 16) rfl (fun hb25 ha25 => ?_) (fun hb25 ha25 => ?_)
 ·
  clear ha24
  try simp only [Q1x, Q2x, Q3x, Q4x, Q5x, Q6x, Q7x, Q8x, Q9x, Q0x, Qax, Qbx] at hb25
  refine wp_cond_true (ha25.ev (x := .tmp 16) rfl) ?_
  refine wp_seq_k (fun K8 hK8 => ?_)
  refine wp_region_lit ?_
  refine st_y ha25 rfl (y_loadBR ha25 m6 (i := 20) rfl rfl Try.underlying34 rfl sz34dn5 (by simp) (by dsimp only [List.drop, List.take] <;> rfl)) ?_
  clear ha25 a24; intro a26 ha26
  refine wpList_plain rfl (fun K hK => ?_)
  refine e_storeW ha26 m6 22 rfl rfl rfl rfl rfl sz34dn5 ?_
  clear m6; intro w27 m27 hB27
  clear hB27
  refine hK _ _ ?_; clear hK K
  refine st_y ha26 rfl (y_assign ha26 rfl) ?_
  clear ha26 a26; intro a28 ha28
  refine wpList_nil ?_
  refine hK8 _ _ ?_; clear hK8; try clear K8
  refine wp_ret ?_
  try dsimp only [Exit.then, Exit.inBlock]
  refine (retCT (fn := Try.f44) ha28 m27 (i := 22) rfl rfl rfl rfl Try.underlying34 rfl sz34dn5 ?_)
  have m29 := m27.dat 23 rfl (m27.rd (i := 2) rfl); clear m27
  exact ⟨pins, 28, _, _, rfl, by rw [unpinR, if_pos (by left; assumption)], m29.ren [(1, 1), (2, 2), (3, 3), (6, 23)] (by decide)⟩
 ·
  clear ha24
  try simp only [Q1x, Q2x, Q3x, Q4x, Q5x, Q6x, Q7x, Q8x, Q9x, Q0x, Qax, Qbx] at hb25
  refine wp_cond_false (ha25.ev (x := .tmp 16) rfl) ?_
  refine wp_skip ?_
  refine hK1 _ _ ?_; clear hK1; try clear K1
  refine wp_seq_k (fun K9 hK9 => ?_)
  refine wp_seq_k (fun K10 hK10 => ?_)
  refine wp_region_lit ?_
  refine st_y ha25 rfl (y_fieldAddr ha25 (off := 0) rfl Try.underlying25 rfl (s := 0) (by kernel_rfl) rfl) ?_
  clear ha25 a24; intro a30 ha30
  refine st_y ha30 rfl (y_loadB1 ha30 m6 (i := 21) rfl rfl rfl Try.underlying3 rfl) ?_
  clear ha30 a30; intro a31 ha31
  refine wpList_nil ?_
  refine hK10 _ _ ?_; clear hK10; try clear K10
  refine wp_block ?_
  refine wp_seq_k (fun K11 hK11 => ?_)
  refine wp_region_lit ?_
  refine st_y ha31 rfl (y_eql ha31 rfl rfl) ?_
  clear ha31 a31; intro a32 ha32
  refine st_y ha32 rfl (y_assign ha32 rfl) ?_
  clear ha32 a32; intro a33 ha33
  refine wpList_nil ?_
  refine hK11 _ _ ?_; clear hK11; try clear K11
  refine bool_cases ha33 (t := 21) rfl (fun hb34 ha34 => ?_) (fun hb34 ha34 => ?_)
  · exact absurd hb34 (by simp)
  clear ha33 hb34
  refine wp_cond_false (ha34.ev (x := .tmp 21) rfl) ?_
  refine wp_seq_k (fun K12 hK12 => ?_)
  have ha35 : Has 197 [(2, _), (3, _), (4, _), (5, _), (16, _), (19, _)] a33 := ha34.only [2, 3, 4, 5, 16, 19]; clear ha34
  refine wp_region_lit ?_
  refine st_y ha35 rfl (y_eql ha35 rfl rfl) ?_
  clear ha35 a33; intro a36 ha36
  refine st_y ha36 rfl (y_assign ha36 rfl) ?_
  clear ha36 a36; intro a37 ha37
  refine wpList_nil ?_
  refine hK12 _ _ ?_; clear hK12; try clear K12
  refine bool_cases ha37 (t := 36) rfl (fun hb38 ha38 => ?_) (fun hb38 ha38 => ?_)
  · exact absurd hb38 (by simp)
  clear ha37 hb38
  refine wp_cond_false (ha38.ev (x := .tmp 36) rfl) ?_
  refine wp_seq_k (fun K13 hK13 => ?_)
  refine wp_region_lit ?_
  refine st_y ha38 rfl (y_eql ha38 rfl rfl) ?_
  clear ha38 a37; intro a39 ha39
  refine st_y ha39 rfl (y_assign ha39 rfl) ?_
  clear ha39 a39; intro a40 ha40
  refine wpList_nil ?_
  refine hK13 _ _ ?_; clear hK13; try clear K13
  refine bool_cases ha40 (t := 53) rfl (fun hb41 ha41 => ?_) (fun hb41 ha41 => ?_)
  · exact absurd hb41 (by simp)
  clear ha40 hb41
  refine wp_cond_false (ha41.ev (x := .tmp 53) rfl) ?_
  refine wp_seq_k (fun K14 hK14 => ?_)
  refine wp_region_lit ?_
  refine st_y ha41 rfl (y_eql ha41 rfl rfl) ?_
  clear ha41 a40; intro a42 ha42
  refine st_y ha42 rfl (y_assign ha42 rfl) ?_
  clear ha42 a42; intro a43 ha43
  refine wpList_nil ?_
  refine hK14 _ _ ?_; clear hK14; try clear K14
  refine bool_cases ha43 (t := 99) rfl (fun hb44 ha44 => ?_) (fun hb44 ha44 => ?_)
  rotate_left
  · exact absurd hb44 (by simp)
  clear ha43 hb44
  refine wp_cond_true (ha44.ev (x := .tmp 99) rfl) ?_
  refine wp_seq_k (fun K15 hK15 => ?_)
  refine wp_seq_k (fun K16 hK16 => ?_)
  have ha45 : Has 197 [(2, _), (3, _), (4, _), (5, _), (16, _), (19, _)] a43 := ha44.only [2, 3, 4, 5, 16, 19]; clear ha44
  refine wp_region_lit ?_
  refine st_y ha45 rfl (y_assign ha45 rfl) ?_
  clear ha45 a43; intro a46 ha46
  refine wpList_nil ?_
  refine hK16 _ _ ?_; clear hK16; try clear K16
  refine wp_block ?_
  refine wp_loop_ghost (fun g a w => ∃ (k B8 B9 B10 : Nat), k ≤ pins.length ∧ g = pins.length - k ∧ (∀ j, j < k → pins.getD j 0 ≠ at0) ∧ Has 197 [(2, .pointer (some ⟨B8, 0, none⟩)), (3, .pointer (some ⟨B9, 0, none⟩)), (4, .pointer (some ⟨B10, 0, none⟩)), (7, .int .i64 k)] a ∧ MemOk X w0 [(1, .dat (.slice pp place.length cp) (.ns .i64 place)), (2, .dat (.slice pn pins.length cn9) (.ns .i64 pins)), (3, .dat (.slice pw (ws.map wrD).length cw) (.l 2 (ws.map wrD))), (8, .box B8 34 [.int .i64 vo, .int .i64 bl, .int .i64 sz, .int .i64 pe, .slice pp place.length cp, .int .i64 to, .int .i64 ne, .bool hi, .int .i64 fl, .slice pn pins.length cn9, .slice pw (ws.map wrD).length cw]), (9, .box B9 25 [.int .i64 5, .int .i64 v1, .int .i64 v2, .int .i64 v3, .int .i64 v4, .slice q1 n1 c1, .int .i64 v5, .int .i64 at0, .int .i64 v6, .slice q2 n2 c2]), (10, .box B10 34 [.int .i64 0, .int .i64 0, .int .i64 0, .int .i64 0, .slice none 0 0, .int .i64 0, .int .i64 0, .bool false, .int .i64 0, .slice none 0 0, .slice none 0 0])] w) (pins.length) ?_ ?_
  · exact ⟨0, _, _, _, Nat.zero_le _, rfl, (fun j hj => by omega), ha46.only [2, 3, 4, 7], m6.ren [(1, 1), (2, 2), (3, 3), (8, 20), (9, 21), (10, 22)] (by decide)⟩
  ·
   clear ha46 m6
   rintro g a47 w47 ⟨k, B8, B9, B10, hkl, hg, hall, ha47, m47⟩
   refine wp_seq_k (fun K17 hK17 => ?_)
   refine wp_seq_k (fun K18 hK18 => ?_)
   refine wp_region_lit ?_
   refine st_y ha47 rfl (y_move ha47 rfl) ?_
   clear ha47 a47; intro a48 ha48
   refine st_y ha48 rfl (y_fieldAddr ha48 (off := 9) rfl Try.underlying34 rfl (s := 0) (by kernel_rfl) rfl) ?_
   clear ha48 a48; intro a49 ha49
   refine st_y ha49 rfl (y_loadB1 ha49 m47 (i := 8) rfl rfl rfl Try.underlying31 rfl) ?_
   clear ha49 a49; intro a50 ha50
   refine st_y ha50 rfl (y_len ha50 rfl Try.underlying31) ?_
   clear ha50 a50; intro a51 ha51
   refine st_y ha51 rfl (y_lss ha51 rfl rfl) ?_
   clear ha51 a51; intro a52 ha52
   refine wpList_nil ?_
   refine hK18 _ _ ?_; clear hK18; try clear K18
   refine bool_cases ha52 (t := 105) rfl (fun hb53 ha53 => ?_) (fun hb53 ha53 => ?_)
   ·
    clear ha52
    try simp only [Q1x, Q2x, Q3x, Q4x, Q5x, Q6x, Q7x, Q8x, Q9x, Q0x, Qax, Qbx] at hb53
    obtain ⟨hk, hkk⟩ : k < pins.length ∧ True := ⟨by omega, trivial⟩
    refine wp_cond_true (ha53.ev (x := .tmp 105) rfl) ?_
    refine wp_skip ?_
    refine hK17 _ _ ?_; clear hK17; try clear K17
    refine wp_seq_k (fun K19 hK19 => ?_)
    refine wp_block ?_
    refine wp_seq_k (fun K20 hK20 => ?_)
    obtain ⟨b54, o54, hp54, m54⟩ := m47.openN (i := 2) rfl (k) (by omega) 100 rfl
    cases hp54; clear m47
    have m55 : MemOk _ _ [(1, _), (2, _), (3, _), (8, _), (9, _), (10, _), (100, _)] _ := m54.only [1, 2, 3, 8, 9, 10, 100]; clear m54
    refine region_m 8 (B := [(1, _), (2, _), (3, _), (8, _), (9, _), (10, _), (100, _)]) (m55.to ⟨il, il, il, il, il, il, il, trivial⟩) m55 (by kernel_rfl) (fun w56 mB56 m56 => ?_); clear m55 mB56
    refine dyn 0 ha53 rfl rfl (m56.to ⟨il, il, il, il, il, il, il, trivial⟩) (fun W => y_fieldAddr ha53 (off := 9) rfl Try.underlying34 rfl (s := 0) (by kernel_rfl) rfl) ?_
    clear ha53 a52; intro a57 ha57
    refine dh 1 ha57 rfl rfl (m56.to ⟨il, il, il, il, il, il, il, trivial⟩) (fun W hW => y_loadB1 ha57 hW (i := 8) rfl rfl rfl Try.underlying31 rfl) ?_
    clear ha57 a57; intro a58 ha58
    refine dyn 2 ha58 rfl rfl (m56.to ⟨il, il, il, il, il, il, il, trivial⟩) (fun W => y_move ha58 rfl) ?_
    clear ha58 a58; intro a59 ha59
    refine dyn 3 ha59 rfl rfl (m56.to ⟨il, il, il, il, il, il, il, trivial⟩) (fun W => y_idx ha59 rfl rfl Try.underlying31 sz2dn5 (k) rfl (by omega)) ?_
    clear ha59 a59; intro a60 ha60
    refine dh 4 ha60 rfl rfl (m56.to ⟨il, il, il, il, il, il, il, trivial⟩) (fun W hW => y_loadC0 ha60 hW (i := 100) rfl rfl Try.underlying2 rfl) ?_
    clear ha60 a60; intro a61 ha61
    refine dyn 5 ha61 rfl rfl (m56.to ⟨il, il, il, il, il, il, il, trivial⟩) (fun W => y_fieldAddr ha61 (off := 7) rfl Try.underlying25 rfl (s := 0) (by kernel_rfl) rfl) ?_
    clear ha61 a61; intro a62 ha62
    refine dh 6 ha62 rfl rfl (m56.to ⟨il, il, il, il, il, il, il, trivial⟩) (fun W hW => y_loadB1 ha62 hW (i := 9) rfl rfl rfl Try.underlying2 rfl) ?_
    clear ha62 a62; intro a63 ha63
    refine dyn 7 ha63 rfl rfl (m56.to ⟨il, il, il, il, il, il, il, trivial⟩) (fun W => y_eql ha63 rfl rfl) ?_
    clear ha63 a63; intro a64 ha64
    refine wpAnyE_done (by kernel_rfl) ?_ _
    refine hK20 _ _ ?_; clear hK20; try clear K20
    refine bool_cases ha64 (t := 115) rfl (fun hb65 ha65 => ?_) (fun hb65 ha65 => ?_)
    ·
     clear ha64
     try simp only [Q1x, Q2x, Q3x, Q4x, Q5x, Q6x, Q7x, Q8x, Q9x, Q0x, Qax, Qbx] at hb65
     refine wp_cond_true (ha65.ev (x := .tmp 115) rfl) ?_
     refine wp_seq_k (fun K21 hK21 => ?_)
     have ha66 : Has 197 [(2, _), (3, _), (4, _), (7, _), (105, _), (115, _)] a64 := ha65.only [2, 3, 4, 7, 105, 115]; clear ha65
     have m67 : MemOk _ _ [(1, _), (2, _), (3, _), (8, _), (9, _), (10, _), (100, _)] _ := m56.only [1, 2, 3, 8, 9, 10, 100]; clear m56
     refine region_m 12 (B := [(1, _), (2, _), (3, _), (8, _), (9, _), (10, _), (100, _)]) (m67.to ⟨il, il, il, il, il, il, il, trivial⟩) m67 (by kernel_rfl) (fun w68 mB68 m68 => ?_); clear m67 mB68
     refine dyn 0 ha66 rfl rfl (m68.to ⟨il, il, il, il, il, il, il, trivial⟩) (fun W => y_fieldAddr ha66 (off := 9) rfl Try.underlying34 rfl (s := 0) (by kernel_rfl) rfl) ?_
     clear ha66 a64; intro a69 ha69
     refine dr 1 ha69 rfl rfl (m68.to ⟨il, il, il, il, il, il, il, trivial⟩) (fun W hW => y_loadB1 ha69 hW (i := 8) rfl rfl rfl Try.underlying31 rfl) ?_
     clear ha69 a69; intro a70 ha70
     refine dyn 2 ha70 rfl rfl (m68.to ⟨il, il, il, il, il, il, il, trivial⟩) (fun W => y_move ha70 rfl) ?_
     clear ha70 a70; intro a71 ha71
     have hcap72 := (m68.rd (i := 2) rfl).ns_out.cap
     have m72 := m68.takeN (i := 2) rfl (k) hkl 101 rfl; clear m68
     refine dyn 3 ha71 rfl rfl (m72.to ⟨il, il, il, il, il, il, il, trivial⟩) (fun W => y_sliceHn ha71 (k) rfl rfl Try.underlying31 sz2dn5 rfl (Nat.le_trans hkl hcap72.1)) ?_
     clear ha71 a71; intro a73 ha73
     refine dyn 5 ha73 rfl rfl (m72.to ⟨il, il, il, il, il, il, il, trivial⟩) (fun W => y_fieldAddr ha73 (off := 9) rfl Try.underlying34 rfl (s := 0) (by kernel_rfl) rfl) ?_
     clear ha73 a73; intro a74 ha74
     refine dr 6 ha74 rfl rfl (m72.to ⟨il, il, il, il, il, il, il, trivial⟩) (fun W hW => y_loadB1 ha74 hW (i := 8) rfl rfl rfl Try.underlying31 rfl) ?_
     clear ha74 a74; intro a75 ha75
     refine dyn 7 ha75 rfl rfl (m72.to ⟨il, il, il, il, il, il, il, trivial⟩) (fun W => y_move ha75 rfl) ?_
     clear ha75 a75; intro a76 ha76
     refine dyn 8 ha76 rfl rfl (m72.to ⟨il, il, il, il, il, il, il, trivial⟩) (fun W => y_add ha76 rfl rfl (r := ((k + 1 : Nat) : Int)) (by rw [IntWalk.i64_in _ (by omega)]; omega)) ?_
     clear ha76 a76; intro a77 ha77
     have m78 := m72.dropN (i := 2) rfl (k + 1) (show k + 1 ≤ pins.length by omega) 102 rfl; clear m72
     refine dyn 9 ha77 rfl rfl (m78.to ⟨il, il, il, il, il, il, il, trivial⟩) (fun W => y_sliceLn ha77 (k + 1) rfl rfl Try.underlying31 sz2dn5 rfl (show k + 1 ≤ pins.length by omega)) ?_
     clear ha77 a77; intro a79 ha79
     refine stepE_only 4 rfl (by kernel_rfl) rfl (fun K hK => ?_)
     refine e_app0N ha79 m78 103 rfl rfl (m78.nums (i := 101) rfl) Try.underlying31 inf2dn5 (by decide) (by simp; omega) rfl ?_
     clear ha79 a79 m78; intro p80 c80 a81 w81 ha81 m81
     refine hK _ _ (m81.to ⟨il, il, il, il, il, il, il, trivial⟩) ?_; clear hK K
     refine stepE_only 10 rfl (by kernel_rfl) rfl (fun K hK => ?_)
     refine e_appN ha81 m81 103 rfl rfl rfl (m81.nums (i := 102) rfl) Try.underlying31 inf2dn5 (by decide) (by simp; omega) rfl ?_
     clear ha81 a81 m81; intro p82 c82 a83 w83 ha83 m83
     refine hK _ _ (m83.to ⟨il, il, il, il, il, il, il, trivial⟩) ?_; clear hK K
     refine dyn 11 ha83 rfl rfl (m83.to ⟨il, il, il, il, il, il, il, trivial⟩) (fun W => y_fieldAddr ha83 (off := 9) rfl Try.underlying34 rfl (s := 0) (by kernel_rfl) rfl) ?_
     clear ha83 a83; intro a84 ha84
     refine stepE_end 12 rfl (by kernel_rfl) rfl (by rfl) (fun K hK => ?_)
     refine e_store1 ha84 m83 8 rfl rfl rfl rfl rfl sz31dn5 (by dsimp only [List.set] <;> rfl) ?_
     clear m83; intro w85 m85 hB85
     clear hB85
     refine hK _ _ ?_; clear hK K
     refine wpAnyE_done (by kernel_rfl) ?_ _
     refine hK21 _ _ ?_; clear hK21; try clear K21
     refine wp_seq_k (fun K22 hK22 => ?_)
     have ha86 : Has 197 [(2, _), (3, _), (4, _), (7, _), (105, _), (115, _)] a84 := ha84.only [2, 3, 4, 7, 105, 115]; clear ha84
     refine wp_region_lit ?_
     refine st_y ha86 rfl (y_loadBR ha86 m85 (i := 8) rfl rfl Try.underlying34 rfl sz34dn5 (by simp) (by dsimp only [List.drop, List.take] <;> rfl)) ?_
     clear ha86 a84; intro a87 ha87
     refine wpList_plain rfl (fun K hK => ?_)
     refine e_storeW ha87 m85 10 rfl rfl rfl rfl rfl sz34dn5 ?_
     clear m85; intro w88 m88 hB88
     clear hB88
     refine hK _ _ ?_; clear hK K
     refine st_y ha87 rfl (y_assign ha87 rfl) ?_
     clear ha87 a87; intro a89 ha89
     refine wpList_nil ?_
     refine hK22 _ _ ?_; clear hK22; try clear K22
     refine wp_ret ?_
     try dsimp only [Exit.then, Exit.inBlock]
     refine (retCT (fn := Try.f44) ha89 m88 (i := 10) rfl rfl rfl rfl Try.underlying34 rfl sz34dn5 ?_)
     have m90 := m88.freezeN 103 rfl; clear m88
     have hI := Lib.idxOf_hit pins pins.length k at0 hk (Nat.le_refl _) (by omega) hall
     rw [List.take_length] at hI
     exact ⟨pins.take k ++ pins.drop (k + 1), 0, _, _, rfl, by rw [unpinR, if_neg (by rintro (h | h) <;> first | omega | simp_all), hI]; simp, m90.ren [(1, 1), (2, 2), (3, 3), (6, 103)] (by decide)⟩
    ·
     clear ha64
     try simp only [Q1x, Q2x, Q3x, Q4x, Q5x, Q6x, Q7x, Q8x, Q9x, Q0x, Qax, Qbx] at hb65
     refine wp_cond_false (ha65.ev (x := .tmp 115) rfl) ?_
     refine wp_skip ?_
     refine hK19 _ _ ?_; clear hK19; try clear K19
     have ha91 : Has 197 [(2, _), (3, _), (4, _), (7, _), (105, _), (115, _)] a64 := ha65.only [2, 3, 4, 7, 105, 115]; clear ha65
     refine wp_region_lit ?_
     refine st_y ha91 rfl (y_move ha91 rfl) ?_
     clear ha91 a64; intro a92 ha92
     refine st_y ha92 rfl (y_add ha92 rfl rfl (r := ((k + 1 : Nat) : Int)) (by rw [IntWalk.i64_in _ (by omega)]; omega)) ?_
     clear ha92 a92; intro a93 ha93
     refine st_y ha93 rfl (y_assign ha93 rfl) ?_
     clear ha93 a93; intro a94 ha94
     refine wpList_nil ?_
     show ∃ n', n' < _ ∧ _
     exact ⟨pins.length - (k + 1), by omega, k + 1, _, _, _, by omega, rfl, nn_snoc hall (by omega), ha94.only [2, 3, 4, 7], m56.only [1, 2, 3, 8, 9, 10]⟩
   ·
    clear ha52
    try simp only [Q1x, Q2x, Q3x, Q4x, Q5x, Q6x, Q7x, Q8x, Q9x, Q0x, Qax, Qbx] at hb53
    obtain rfl : k = pins.length := by omega
    refine wp_cond_false (ha53.ev (x := .tmp 105) rfl) ?_
    refine wp_exit ?_
    refine hK15 _ _ ?_; clear hK15; try clear K15
    refine wp_seq_k (fun K23 hK23 => ?_)
    refine wp_region_lit ?_
    refine st_y ha53 rfl (y_loadBR ha53 m47 (i := 8) rfl rfl Try.underlying34 rfl sz34dn5 (by simp) (by dsimp only [List.drop, List.take] <;> rfl)) ?_
    clear ha53 a52; intro a95 ha95
    refine wpList_plain rfl (fun K hK => ?_)
    refine e_storeW ha95 m47 10 rfl rfl rfl rfl rfl sz34dn5 ?_
    clear m47; intro w96 m96 hB96
    clear hB96
    refine hK _ _ ?_; clear hK K
    refine st_y ha95 rfl (y_assign ha95 rfl) ?_
    clear ha95 a95; intro a97 ha97
    refine wpList_nil ?_
    refine hK23 _ _ ?_; clear hK23; try clear K23
    refine wp_ret ?_
    try dsimp only [Exit.then, Exit.inBlock]
    refine (retCT (fn := Try.f44) ha97 m96 (i := 10) rfl rfl rfl rfl Try.underlying34 rfl sz34dn5 ?_)
    have m98 := m96.dat 100 rfl (m96.rd (i := 2) rfl); clear m96
    have hI := Lib.idxOf_miss pins pins.length at0 hall
    rw [List.take_length] at hI
    exact ⟨pins, 28, _, _, rfl, by rw [unpinR, if_pos (by right; omega)], m98.ren [(1, 1), (2, 2), (3, 3), (6, 100)] (by decide)⟩
end Go.Proofs.Ytocfbocdnklllaa.K
