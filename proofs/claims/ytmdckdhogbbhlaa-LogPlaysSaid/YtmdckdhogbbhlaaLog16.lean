/- LogPlays' walk. -/
import Derived.Test.YtmdckdhogbbhlaaLog15
namespace Go.Proofs.Ytmdckdhogbbhlaa.K
open Go.ChangeShapes Go.WideShapes Go.ChangeAt Go.RowKit
set_option linter.unusedVariables false
set_option linter.unusedSimpArgs false

theorem fl28lp : flatS Try.prog 28 [.int .i64 0, .int .i64 0, .slice none 0 0, .slice none 0 0] = true := by kernel_rfl
theorem inf3lp : (Try.prog.info? 3).map (fun i => (i.zero, i.size, i.bytes)) = some (some (.int .i64 0), 1, 8) := by kernel_rfl
theorem inf5lp : (Try.prog.info? 5).map (fun i => (i.zero, i.size, i.bytes)) = some (some (.int .u8 0), 1, 1) := by kernel_rfl
theorem sz3lp : (Try.prog.info? 3).map (·.size) = some 1 := by kernel_rfl
theorem sz28lp : (Try.prog.info? 28).map (·.size) = some 4 := by kernel_rfl
theorem sz32lp : (Try.prog.info? 32).map (·.size) = some 4 := by kernel_rfl
theorem sz39lp : (Try.prog.info? 39).map (·.size) = some 5 := by kernel_rfl
theorem zc28lp : ((Try.prog.info? 28).bind (·.zero)).map (·.cells.toList) = some [.int .i64 0, .int .i64 0, .slice none 0 0, .slice none 0 0] := by kernel_rfl
theorem zc39lp : ((Try.prog.info? 39).bind (·.zero)).map (·.cells.toList) = some [.int .u8 0, .int .u8 0, .int .u8 0, .int .u8 0, .slice none 0 0] := by kernel_rfl
set_option maxRecDepth 100000
set_option maxHeartbeats 8000000
theorem logplays_walk (ix : Nat) (first : List Int) (acts : List (Int × Int × Int × Int × List Int)) (p1 p5 : Option Addr) (c1 c5 : Nat) (w0 : World) (hix : ix ≤ 65535) (hf0 : Rd (fun _ => True) w0 (.slice p1 first.length c1) (.ns .u8 first)) (hfb : ∀ j, j < first.length → 0 ≤ first.getD j 0 ∧ first.getD j 0 ≤ 255) (ha5 : Rd (fun _ => True) w0 (.slice p5 acts.length c5) (.l 5 (acts.map lactD))) (hok : ∀ a ∈ acts, LActOk a) :
    Calls Try.prog 3 #[.int .u16 (ix : Int), .slice p1 first.length c1, .slice p5 acts.length c5] w0 fun e w' => e = .returned (.bool true) ∧ Below w0.heap.size w0 w' := by
  refine enter (fn := Try.f3) Try.func3 rfl Try.ntmps3 rfl (fun a0 ha0 => ?_)
  simp only [List.zipIdx_cons, List.zipIdx_nil, List.map_cons, List.map_nil, Nat.reduceAdd, Nat.zero_add] at ha0
  have m0 := (MemOk.start (fun _ => True) w0).dat 5 rfl (ha5.cast (fun _ _ => free_nil (fun _ => trivial)))
  obtain ⟨bi0, hbi0, hbi0b⟩ : ∃ x : Int, (ix : Int).tmod 20 = x ∧ 0 ≤ x ∧ x ≤ 19 := ⟨_, rfl, by rw [Int.tmod_eq_emod_of_nonneg (by omega)]; omega, by rw [Int.tmod_eq_emod_of_nonneg (by omega)]; omega⟩
  obtain ⟨bt0, hbt0, hbt0b⟩ : ∃ x : Int, (ix : Int).tmod 3 = x ∧ 0 ≤ x ∧ x ≤ 2 := ⟨_, rfl, by rw [Int.tmod_eq_emod_of_nonneg (by omega)]; omega, by rw [Int.tmod_eq_emod_of_nonneg (by omega)]; omega⟩
  refine wp_seq_k (fun K0 hK0 => ?_)
  refine wp_region_lit ?_
  refine st_y ha0 rfl (y_assign ha0 rfl) ?_
  clear ha0 a0; intro a1 ha1
  refine wpList_nil ?_
  refine hK0 _ _ ?_; clear hK0; try clear K0
  refine wp_seq_k (fun K1 hK1 => ?_)
  refine wp_seq_k (fun K2 hK2 => ?_)
  refine wp_region_lit ?_
  refine wpList_plain rfl (fun K hK => ?_)
  refine e_call ha1 Try.func7 rfl rfl rfl rfl (lknown_any _) ?_
  rintro e w2 ⟨rfl, hb2⟩
  have m3 := m0.later hb2
  clear m0
  clear hb2
  refine ⟨_, rfl, fun a4 ha4 => ?_⟩; clear ha1 a1
  refine hK _ _ ?_; clear hK K
  refine st_y ha4 rfl (y_not ha4 rfl) ?_
  clear ha4 a4; intro a5 ha5
  refine wpList_nil ?_
  refine hK2 _ _ ?_; clear hK2; try clear K2
  refine wp_cond_false (ha5.ev (x := .tmp 29) rfl) ?_
  refine wp_skip ?_
  refine hK1 _ _ ?_; clear hK1; try clear K1
  refine wp_seq_k (fun K3 hK3 => ?_)
  refine wp_seq_k (fun K4 hK4 => ?_)
  refine wp_region_lit ?_
  refine st_y ha5 rfl (y_move ha5 rfl) ?_
  clear ha5 a5; intro a6 ha6
  refine st_y ha6 rfl (y_len ha6 rfl Try.underlying23) ?_
  clear ha6 a6; intro a7 ha7
  refine st_y ha7 rfl (y_gtr ha7 rfl rfl) ?_
  clear ha7 a7; intro a8 ha8
  refine st_y ha8 rfl (y_move ha8 rfl) ?_
  clear ha8 a8; intro a9 ha9
  refine bool_cases ha9 (t := 33) rfl (fun hb10 ha10 => ?_) (fun hb10 ha10 => ?_)
  · skip
    clear ha9
    try simp only [decide_eq_true_eq, decide_eq_false_iff_not, Bool.not_eq_true, Bool.not_eq_false, Bool.not_eq_eq_eq_not, Bool.not_true, Bool.not_false, Bool.not_not, Int.not_lt, Int.not_le, ne_eq, Decidable.not_not] at hb10
    refine st_skip ha10 rfl rfl rfl rfl ?_
    clear ha10 a9; intro a11 ha11
    refine st_skip ha11 rfl rfl rfl rfl ?_
    clear ha11 a11; intro a12 ha12
    refine st_skip ha12 rfl rfl rfl rfl ?_
    clear ha12 a12; intro a13 ha13
    refine st_y ha13 rfl (y_pickT ha13 rfl rfl) ?_
    clear ha13 a13; intro a14 ha14
    refine wpList_nil ?_
    refine hK4 _ _ ?_; clear hK4; try clear K4
    refine wp_cond_true (ha14.ev (x := .tmp 37) rfl) ?_
    refine wp_seq_k (fun K5 hK5 => ?_)
    have ha15 : Has 294 [(0, _), (1, _), (2, _), (6, _)] a14 := ha14.only [0, 1, 2, 6]; clear ha14
    refine wp_region_lit ?_
    refine st_y ha15 rfl (y_assign ha15 rfl) ?_
    clear ha15 a14; intro a16 ha16
    refine wpList_nil ?_
    refine hK5 _ _ ?_; clear hK5; try clear K5
    refine wp_ret ?_
    try dsimp only [Exit.then, Exit.inBlock]
    refine (ret1 (fn := Try.f3) ha16 rfl rfl ?_)
    exact ⟨by first | rfl | simp, m3.below⟩
  · skip
    clear ha9
    try simp only [decide_eq_true_eq, decide_eq_false_iff_not, Bool.not_eq_true, Bool.not_eq_false, Bool.not_eq_eq_eq_not, Bool.not_true, Bool.not_false, Bool.not_not, Int.not_lt, Int.not_le, ne_eq, Decidable.not_not] at hb10
    refine st_g ha10 rfl rfl rfl rfl (y_move ha10 rfl) ?_
    clear ha10 a9; intro a17 ha17
    refine st_g ha17 rfl rfl rfl rfl (y_len ha17 rfl Try.underlying24) ?_
    clear ha17 a17; intro a18 ha18
    refine st_g ha18 rfl rfl rfl rfl (y_gtr ha18 rfl rfl) ?_
    clear ha18 a18; intro a19 ha19
    refine st_y ha19 rfl (y_pickF ha19 rfl rfl) ?_
    clear ha19 a19; intro a20 ha20
    refine wpList_nil ?_
    refine hK4 _ _ ?_; clear hK4; try clear K4
    refine bool_cases ha20 (t := 37) rfl (fun hb21 ha21 => ?_) (fun hb21 ha21 => ?_)
    · skip
      clear ha20
      try simp only [decide_eq_true_eq, decide_eq_false_iff_not, Bool.not_eq_true, Bool.not_eq_false, Bool.not_eq_eq_eq_not, Bool.not_true, Bool.not_false, Bool.not_not, Int.not_lt, Int.not_le, ne_eq, Decidable.not_not] at hb21
      refine wp_cond_true (ha21.ev (x := .tmp 37) rfl) ?_
      refine wp_seq_k (fun K6 hK6 => ?_)
      have ha22 : Has 294 [(0, _), (1, _), (2, _), (6, _)] a20 := ha21.only [0, 1, 2, 6]; clear ha21
      refine wp_region_lit ?_
      refine st_y ha22 rfl (y_assign ha22 rfl) ?_
      clear ha22 a20; intro a23 ha23
      refine wpList_nil ?_
      refine hK6 _ _ ?_; clear hK6; try clear K6
      refine wp_ret ?_
      try dsimp only [Exit.then, Exit.inBlock]
      refine (ret1 (fn := Try.f3) ha23 rfl rfl ?_)
      exact ⟨by first | rfl | simp, m3.below⟩
    · skip
      clear ha20
      try simp only [decide_eq_true_eq, decide_eq_false_iff_not, Bool.not_eq_true, Bool.not_eq_false, Bool.not_eq_eq_eq_not, Bool.not_true, Bool.not_false, Bool.not_not, Int.not_lt, Int.not_le, ne_eq, Decidable.not_not] at hb21
      obtain ⟨es0, hes0⟩ : ∃ x, entsN (bi0 + 1) first first.length = x := ⟨_, rfl⟩
      have hes0l : es0.length = first.length := by rw [← hes0, entsN_len]
      have heg0 : ∀ e ∈ es0, EG e := by rw [← hes0]; exact ents_eg hfb (by omega)
      refine wp_cond_false (ha21.ev (x := .tmp 37) rfl) ?_
      refine wp_skip ?_
      refine hK3 _ _ ?_; clear hK3; try clear K3
      refine wp_seq_k (fun K7 hK7 => ?_)
      have ha24 : Has 294 [(0, _), (1, _), (2, _), (6, _)] a20 := ha21.only [0, 1, 2, 6]; clear ha21
      refine wp_region_lit ?_
      refine st_y ha24 rfl (y_move ha24 rfl) ?_
      clear ha24 a20; intro a25 ha25
      refine st_y ha25 rfl (y_rem ha25 rfl rfl (by decide) (r := bi0) hbi0) ?_
      clear ha25 a25; intro a26 ha26
      refine st_y ha26 rfl (y_conv ha26 rfl Try.underlying22 Try.underlying3 (r := bi0) (IntWalk.i64_in _ (by omega))) ?_
      clear ha26 a26; intro a27 ha27
      refine st_y ha27 rfl (y_move ha27 rfl) ?_
      clear ha27 a27; intro a28 ha28
      refine st_y ha28 rfl (y_rem ha28 rfl rfl (by decide) (r := bt0) hbt0) ?_
      clear ha28 a28; intro a29 ha29
      refine st_y ha29 rfl (y_conv ha29 rfl Try.underlying22 Try.underlying3 (r := bt0) (IntWalk.i64_in _ (by omega))) ?_
      clear ha29 a29; intro a30 ha30
      refine wpList_plain rfl (fun K hK => ?_)
      refine e_litN ha30 m3 60 (k := .i64) rfl rfl Try.underlying26 inf3lp rfl rfl rfl rfl ?_
      clear ha30 a30 m3; intro g31 a32 w32 ha32 m32 
      refine hK _ _ ?_; clear hK K
      refine st_y ha32 rfl (y_build ha32 rfl zc28lp fl28lp rfl (by dsimp only [setL, List.set] <;> rfl)) ?_
      clear ha32 a32; intro a33 ha33
      refine wpList_plain rfl (fun K hK => ?_)
      refine e_alloc ha33 m32 61 zc28lp rfl ?_
      clear ha33 a33 m32; intro g34 a35 w35 ha35 m35 hB35 hg35
      clear hB35 hg35
      refine hK _ _ ?_; clear hK K
      refine wpList_plain rfl (fun K hK => ?_)
      refine e_storeW ha35 m35 61 rfl rfl rfl rfl rfl sz28lp ?_
      clear m35; intro w36 m36 hB36
      clear hB36
      refine hK _ _ ?_; clear hK K
      refine wpList_nil ?_
      refine hK7 _ _ ?_; clear hK7; try clear K7
      refine wp_seq_k (fun K8 hK8 => ?_)
      have ha37 : Has 294 [(0, _), (1, _), (2, _), (6, _), (7, _)] a35 := ha35.only [0, 1, 2, 6, 7]; clear ha35
      refine wp_region_lit ?_
      refine st_y ha37 rfl (y_fieldAddr ha37 (off := 0) rfl Try.underlying28 rfl (s := 0) (by kernel_rfl) rfl) ?_
      clear ha37 a35; intro a38 ha38
      refine st_y ha38 rfl (y_loadB1 ha38 m36 (i := 61) rfl rfl rfl Try.underlying3 rfl) ?_
      clear ha38 a38; intro a39 ha39
      refine st_y ha39 rfl (y_add ha39 rfl rfl (r := bi0 + 1) (IntWalk.i64_in _ (by omega))) ?_
      clear ha39 a39; intro a40 ha40
      refine st_y ha40 rfl (y_move ha40 rfl) ?_
      clear ha40 a40; intro a41 ha41
      refine wpList_plain rfl (fun K hK => ?_)
      refine e_call ha41 Try.func8 rfl rfl rfl rfl (ents_own (bi0 + 1) first _ _ _ ((hf0.now' m36 rfl).any) (by omega) (by omega) hfb) ?_
      rintro e w42 ⟨p42, c42, rfl, ho42, hb42⟩
      have m43 := m36.callR 62 hb42 (ho42.cast (fun b h => ⟨h.1.elim False.elim .inr, h.2⟩))
      clear m36
      have m44 := m43.rowS 62 rfl
      clear m43
      clear hb42 ho42
      refine ⟨_, rfl, fun a45 ha45 => ?_⟩; clear ha41 a41
      refine hK _ _ ?_; clear hK K
      rw [hes0] at m44 ha45
      refine st_y ha45 rfl (y_assign ha45 rfl) ?_
      clear ha45 a45; intro a46 ha46
      refine wpList_nil ?_
      refine hK8 _ _ ?_; clear hK8; try clear K8
      refine wp_seq_k (fun K9 hK9 => ?_)
      have hC9 : ∀ (a : Act) (w : World), (∃ (esx : List (Int × Int × Int × List Int)) (D7 : Nat) (pk pe p5 : Option Addr) (ck ce c5 : Nat), esx.length ≤ 12 ∧ (∀ e ∈ esx, EG e) ∧ Has 294 [(2, .slice p5 acts.length c5), (7, .pointer (some ⟨D7, 0, none⟩)), (8, .slice pe (esx.map entD).length ce)] a ∧ MemOk (cx (fun _ => True) w0) w0 [(5, .dat (.slice p5 acts.length c5) (.l 5 (acts.map lactD))), (7, .box D7 28 [.int .i64 bi0, .int .i64 bt0, .slice pk 3 ck, .slice none 0 0]), (6, .dat (.slice pk 3 ck) (.ns .i64 [0, 1, 2])), (8, .dat (.slice pe (esx.map entD).length ce) (.l 4 (esx.map entD)))] w) → K9 a w := by
        clear ha46 m44
        rintro a47 w47 ⟨esx, D7, pk, pe, p5, ck, ce, c5, hxl, hxg, ha47, m47⟩
        refine hK9 _ _ ?_; clear hK9; try clear K9
        refine wp_seq_k (fun K10 hK10 => ?_)
        have hxok : EntsOk esx := fun e he => by have := (hxg e he).2.2.1; omega
        have m48 : MemOk _ _ [(5, _), (6, _), (7, _), (8, _)] _ := m47.only [5, 6, 7, 8]; clear m47
        refine region_m 8 (B := [(7, _)]) (m48.to ⟨.inl rfl, trivial⟩) m48 (by kernel_rfl) (fun w49 mB49 m49 => ?_); clear m48 mB49
        refine d_h 0 ha47 rfl rfl (m49.to ⟨.inl rfl, trivial⟩) (by kernel_rfl) (by kernel_rfl) (by kernel_rfl) (by kernel_rfl) (by kernel_rfl) (fun _ _ _ h => h) (fun W hW => y_loadBR ha47 hW (i := 7) rfl rfl Try.underlying28 rfl sz28lp (by simp) (by dsimp only [List.drop, List.take] <;> rfl)) ?_
        clear ha47 a47; intro a50 ha50
        refine d_y 1 ha50 rfl rfl (fun _ => (m49.to ⟨.inl rfl, trivial⟩)) (by kernel_rfl) (by kernel_rfl) (by kernel_rfl) (by rfl) (fun _ _ _ h => h) (fun W => y_move ha50 rfl) ?_
        clear ha50 a50; intro a51 ha51
        refine d_h 3 ha51 rfl rfl (m49.to ⟨.inl rfl, trivial⟩) (by kernel_rfl) (by kernel_rfl) (by kernel_rfl) (by kernel_rfl) (by kernel_rfl) (fun _ _ _ h => h) (fun W hW => y_loadBR ha51 hW (i := 7) rfl rfl Try.underlying28 rfl sz28lp (by simp) (by dsimp only [List.drop, List.take] <;> rfl)) ?_
        clear ha51 a51; intro a52 ha52
        refine d_y 4 ha52 rfl rfl (fun _ => (m49.to ⟨.inl rfl, trivial⟩)) (by kernel_rfl) (by kernel_rfl) (by kernel_rfl) (by rfl) (fun _ _ _ h => h) (fun W => y_move ha52 rfl) ?_
        clear ha52 a52; intro a53 ha53
        have m54 := m49.dat 100 rfl (m49.rd (i := 6) rfl); clear m49
        have m55 := m54.dat 101 rfl (Rd.nilN _ _ .u8 none); clear m54
        have m56 := m55.dat 102 rfl (m55.rd (i := 8) rfl); clear m55
        refine stepE_only 2 rfl (by kernel_rfl) rfl (fun K hK => ?_)
        refine e_call ha53 Try.func9 rfl rfl rfl rfl (new_is _ bi0 bt0 [0, 1, 2] [] esx _ _ _ _ _ _ _ _ (by omega) (by decide) (by decide) (by omega) hxok rfl (m56.into [(5, 100), (6, 101), (7, 102)] (by decide) rfl)) ?_
        rintro e w57 ⟨B57, pc57, cc57, pd57, cd57, pl57, cl57, rfl, hm57⟩
        have mx57 := m56.back hm57 [(11, 1), (12, 2), (13, 3), (14, 4)] (by decide); clear hm57 m56
        have m57 : MemOk _ _ [(11, _), (12, _), (13, _), (14, _), (5, _), (6, _), (7, _), (8, _)] _ := mx57.only [11, 12, 13, 14, 5, 6, 7, 8]; clear mx57
        refine ⟨_, rfl, fun a58 ha58 => ?_⟩; clear ha53 a53
        refine hK _ _ (m57.to ⟨.inl rfl, trivial⟩) ?_; clear hK K
        have m59 := m57.dat 103 rfl (m57.rd (i := 6) rfl); clear m57
        have m60 := m59.dat 104 rfl (Rd.nilN _ _ .u8 none); clear m59
        have m61 := m60.dat 105 rfl (m60.rd (i := 8) rfl); clear m60
        refine stepE_only 5 rfl (by kernel_rfl) rfl (fun K hK => ?_)
        refine e_call ha58 Try.func10 rfl rfl rfl rfl (rnew_fr _ bi0 bt0 [0, 1, 2] [] esx _ _ _ _ _ _ _ _ (by omega) (by omega) (m61.into [(5, 103), (6, 104), (7, 105)] (by decide) rfl)) ?_
        rintro e w62 ⟨B62, pl62, cl62, rfl, hm62⟩
        have mx62 := m61.back hm62 [(21, 1), (22, 2), (23, 3), (24, 4)] (by decide); clear hm62 m61
        have m62 : MemOk _ _ [(21, _), (22, _), (23, _), (24, _), (5, _), (6, _), (7, _), (8, _), (11, _), (12, _), (13, _), (14, _)] _ := mx62.only [21, 22, 23, 24, 5, 6, 7, 8, 11, 12, 13, 14]; clear mx62
        refine ⟨_, rfl, fun a63 ha63 => ?_⟩; clear ha58 a58
        refine hK _ _ (m62.to ⟨.inl rfl, trivial⟩) ?_; clear hK K
        refine d_y 6 ha63 rfl rfl (fun _ => (m62.to ⟨.inl rfl, trivial⟩)) (by kernel_rfl) (by kernel_rfl) (by kernel_rfl) (by rfl) (fun _ _ _ h => h) (fun W => y_assign ha63 rfl) ?_
        clear ha63 a63; intro a64 ha64
        refine d_y 7 ha64 rfl rfl (fun _ => (m62.to ⟨.inl rfl, trivial⟩)) (by kernel_rfl) (by kernel_rfl) (by kernel_rfl) (by rfl) (fun _ _ _ h => h) (fun W => y_assign ha64 rfl) ?_
        clear ha64 a64; intro a65 ha65
        refine wpAnyE_done (by kernel_rfl) ?_ _
        refine hK10 _ _ ?_; clear hK10; try clear K10
        refine wp_seq_k (fun K11 hK11 => ?_)
        refine wp_seq_k (fun K12 hK12 => ?_)
        obtain ⟨es, hesE⟩ : ∃ x, esx.take (runN bi0 esx) = x := ⟨_, rfl⟩
        rw [hesE] at m62
        have hst0 : StOk 40 bi0 bt0 [0, 1, 2] [] es := by rw [← hesE]; exact st_new hxg (by omega) (by omega) (by omega)
        have ha66 : Has 294 [(2, _), (7, _), (8, _), (9, _), (10, _)] a65 := ha65.only [2, 7, 8, 9, 10]; clear ha65
        refine wp_region_lit ?_
        refine st_y ha66 rfl (y_move ha66 rfl) ?_
        clear ha66 a65; intro a67 ha67
        refine st_y ha67 rfl (y_move ha67 rfl) ?_
        clear ha67 a67; intro a68 ha68
        refine wpList_plain rfl (fun K hK => ?_)
        refine e_call ha68 Try.func11 rfl rfl rfl rfl (alike_fr _ _ _ bi0 bt0 [0, 1, 2] [] es _ _ _ _ _ _ _ _ _ _ _ _ _ _ hst0.bi1 hst0.len hst0.seq hst0.ok hst0.b hst0.r hst0.cf (by have := hst0.d; omega) (m62.into [(1, 11), (2, 12), (3, 13), (4, 14), (11, 21), (12, 22), (13, 23), (14, 24)] (by decide) rfl)) ?_
        rintro e w69 ⟨pl69, cl69, rfl, hm69⟩
        have mx69 := m62.back hm69 [(11, 1), (12, 2), (13, 3), (14, 4), (21, 11), (22, 12), (23, 13), (24, 14)] (by decide); clear hm69 m62
        have m69 : MemOk _ _ [(11, _), (12, _), (13, _), (14, _), (21, _), (22, _), (23, _), (24, _), (5, _), (6, _), (7, _), (8, _)] _ := mx69.only [11, 12, 13, 14, 21, 22, 23, 24, 5, 6, 7, 8]; clear mx69
        refine ⟨_, rfl, fun a70 ha70 => ?_⟩; clear ha68 a68
        refine hK _ _ ?_; clear hK K
        refine st_y ha70 rfl (y_not ha70 rfl) ?_
        clear ha70 a70; intro a71 ha71
        refine wpList_nil ?_
        refine hK12 _ _ ?_; clear hK12; try clear K12
        refine wp_cond_false (ha71.ev (x := .tmp 75) rfl) ?_
        refine wp_skip ?_
        refine hK11 _ _ ?_; clear hK11; try clear K11
        refine wp_seq_k (fun K13 hK13 => ?_)
        refine wp_seq_k (fun K14 hK14 => ?_)
        refine wp_region_lit ?_
        refine st_y ha71 rfl (y_assign ha71 rfl) ?_
        clear ha71 a71; intro a72 ha72
        refine wpList_nil ?_
        refine hK14 _ _ ?_; clear hK14; try clear K14
        refine wp_block ?_
        refine wp_loop_ghost (fun g a w => ∃ (i BB CC : Nat) (bi bt : Int) (cf d : List Int) (es : List (Int × Int × Int × List Int)) (pc1 pd1 pl1 pc2 pd2 pl2 p5 : Option Addr) (cc1 cd1 cl1 cc2 cd2 cl2 c5 : Nat), i ≤ acts.length ∧ g = acts.length - i ∧ StOk (40 + 11 * i) bi bt cf d es ∧ Has 294 [(2, .slice p5 acts.length c5), (9, .pointer (some ⟨BB, 0, none⟩)), (10, .pointer (some ⟨CC, 0, none⟩)), (11, .int .i64 (i : Int))] a ∧ MemOk (cx (fun _ => True) w0) w0 [(11, .box BB 56 [.int .i64 bi, .int .i64 bt, .slice pc1 cf.length cc1, .slice pd1 d.length cd1, .slice pl1 (es.map entD).length cl1]), (12, .seg (.slice pl1 (es.map entD).length cl1) 32 4 (es.map entD)), (13, .dat (.slice pc1 cf.length cc1) (.ns .i64 cf)), (14, .dat (.slice pd1 d.length cd1) (.ns .u8 d)), (21, .box CC 41 [.int .i64 bi, .int .i64 bt, .slice pc2 cf.length cc2, .slice pd2 d.length cd2, .slice pl2 (es.map entD).length cl2]), (22, .seg (.slice pl2 (es.map entD).length cl2) 32 4 (es.map entD)), (23, .dat (.slice pc2 cf.length cc2) (.ns .i64 cf)), (24, .dat (.slice pd2 d.length cd2) (.ns .u8 d)), (5, .dat (.slice p5 acts.length c5) (.l 5 (acts.map lactD)))] w) (acts.length) ?_ ?_
        · exact ⟨0, _, _, bi0, bt0, [0, 1, 2], [], es, _, _, _, _, _, _, _, _, _, _, _, _, _, _, Nat.zero_le _, rfl, hst0, ha72.only [2, 9, 10, 11], m69.only [11, 12, 13, 14, 21, 22, 23, 24, 5]⟩
        · skip
          clear ha72 m69
          rintro g a73 w73 ⟨i, BB, CC, bi, bt, cf, d, es, pc1, pd1, pl1, pc2, pd2, pl2, p5, cc1, cd1, cl1, cc2, cd2, cl2, c5, hil, hg, hst, ha73, m73⟩
          have hbi := hst.bi0
          have hbe := hst.m
          have hbt0 := hst.bt0
          have hcf9 := hst.cf
          have hd6 := hst.d
          have hi30 : i ≤ 30 := by omega
          refine wp_seq_k (fun K15 hK15 => ?_)
          refine wp_seq_k (fun K16 hK16 => ?_)
          refine wp_region_lit ?_
          refine st_y ha73 rfl (y_move ha73 rfl) ?_
          clear ha73 a73; intro a74 ha74
          refine st_y ha74 rfl (y_move ha74 rfl) ?_
          clear ha74 a74; intro a75 ha75
          refine st_y ha75 rfl (y_len ha75 rfl Try.underlying24) ?_
          clear ha75 a75; intro a76 ha76
          refine st_y ha76 rfl (y_lss ha76 rfl rfl) ?_
          clear ha76 a76; intro a77 ha77
          refine wpList_nil ?_
          refine hK16 _ _ ?_; clear hK16; try clear K16
          refine bool_cases ha77 (t := 79) rfl (fun hb78 ha78 => ?_) (fun hb78 ha78 => ?_)
          · skip
            clear ha77
            try simp only [decide_eq_true_eq, decide_eq_false_iff_not, Bool.not_eq_true, Bool.not_eq_false, Bool.not_eq_eq_eq_not, Bool.not_true, Bool.not_false, Bool.not_not, Int.not_lt, Int.not_le, ne_eq, Decidable.not_not] at hb78
            have hi : i < acts.length := by omega
            obtain ⟨⟨xw, xa, xb, xc, xl⟩, hact⟩ : ∃ e, acts[i]? = some e := ⟨_, List.getElem?_eq_getElem hi⟩
            obtain ⟨⟨hw1, hw2⟩, ⟨ha1, ha2⟩, ⟨hb1, hb2⟩, ⟨hc1, hc2⟩, hxb⟩ := hok _ (List.mem_of_getElem? hact)
            dsimp only at hw1 hw2 ha1 ha2 hb1 hb2 hc1 hc2 hxb
            have hxlb : ∀ j, j < xl.length → 0 ≤ xl.getD j 0 ∧ xl.getD j 0 ≤ 255 := fun j hj => hxb _ (by rw [List.getD, List.getElem?_eq_getElem hj]; exact List.getElem_mem _)
            refine wp_cond_true (ha78.ev (x := .tmp 79) rfl) ?_
            refine wp_skip ?_
            refine hK15 _ _ ?_; clear hK15; try clear K15
            refine wp_seq_k (fun K17 hK17 => ?_)
            refine wp_block ?_
            refine wp_seq_k (fun K18 hK18 => ?_)
            refine wp_region_lit ?_
            refine st_y ha78 rfl (y_move ha78 rfl) ?_
            clear ha78 a77; intro a79 ha79
            refine st_y ha79 rfl (y_move ha79 rfl) ?_
            clear ha79 a79; intro a80 ha80
            obtain ⟨b81, o81, vs81, hp81, hR81, ho81, m81⟩ := m73.openR (i := 5) rfl (i) (r := [.v (.int .u8 xw), .v (.int .u8 xa), .v (.int .u8 xb), .v (.int .u8 xc), .ns .u8 xl]) (lact_get hact) 200 rfl
            cases hp81; clear m73 ho81
            rcases hR81 with _ | ⟨hd81_0, _ | ⟨hd81_1, _ | ⟨hd81_2, _ | ⟨hd81_3, _ | ⟨hd81_4, _ | _⟩⟩⟩⟩⟩
            obtain rfl := hd81_0.v_out
            clear hd81_0
            obtain rfl := hd81_1.v_out
            clear hd81_1
            obtain rfl := hd81_2.v_out
            clear hd81_2
            obtain rfl := hd81_3.v_out
            clear hd81_3
            obtain ⟨p82, c82, hv82, hc82⟩ := hd81_4.ns_shape; subst hv82
            have m82 := m81.dat 201 rfl (hd81_4.cast (fun _ h => (free_add rfl h))); clear m81 hd81_4
            refine st_y ha80 rfl (y_idx ha80 rfl rfl Try.underlying24 sz39lp (i) rfl hi) ?_
            clear ha80 a80; intro a83 ha83
            refine st_y ha83 rfl (y_loadCR ha83 m82 (i := 200) rfl rfl Try.underlying39 rfl sz39lp) ?_
            clear ha83 a83; intro a84 ha84
            refine wpList_plain rfl (fun K hK => ?_)
            refine e_alloc ha84 m82 202 zc39lp rfl ?_
            clear ha84 a84 m82; intro g85 a86 w86 ha86 m86 hB86 hg86
            clear hB86 hg86
            refine hK _ _ ?_; clear hK K
            refine wpList_plain rfl (fun K hK => ?_)
            refine e_storeW ha86 m86 202 rfl rfl rfl rfl rfl sz39lp ?_
            clear m86; intro w87 m87 hB87
            clear hB87
            refine hK _ _ ?_; clear hK K
            refine wpList_nil ?_
            refine hK18 _ _ ?_; clear hK18; try clear K18
            refine wp_seq_k (fun K19 hK19 => ?_)
            have hC19 : ∀ (a : Act) (w : World), (∃ (D6 : Nat) (pf : Option Addr) (cf6 : Nat) (pc1 pd1 pl1 pc2 pd2 pl2 p5 : Option Addr) (cc1 cd1 cl1 cc2 cd2 cl2 c5 : Nat), xl.length ≤ 6 ∧ Has 294 [(2, .slice p5 acts.length c5), (9, .pointer (some ⟨BB, 0, none⟩)), (10, .pointer (some ⟨CC, 0, none⟩)), (11, .int .i64 (i : Int)), (12, .pointer (some ⟨D6, 0, none⟩))] a ∧ MemOk (cx (fun _ => True) w0) w0 [(11, .box BB 56 [.int .i64 bi, .int .i64 bt, .slice pc1 cf.length cc1, .slice pd1 d.length cd1, .slice pl1 (es.map entD).length cl1]), (12, .seg (.slice pl1 (es.map entD).length cl1) 32 4 (es.map entD)), (13, .dat (.slice pc1 cf.length cc1) (.ns .i64 cf)), (14, .dat (.slice pd1 d.length cd1) (.ns .u8 d)), (21, .box CC 41 [.int .i64 bi, .int .i64 bt, .slice pc2 cf.length cc2, .slice pd2 d.length cd2, .slice pl2 (es.map entD).length cl2]), (22, .seg (.slice pl2 (es.map entD).length cl2) 32 4 (es.map entD)), (23, .dat (.slice pc2 cf.length cc2) (.ns .i64 cf)), (24, .dat (.slice pd2 d.length cd2) (.ns .u8 d)), (5, .dat (.slice p5 acts.length c5) (.l 5 (acts.map lactD))), (6, .box D6 39 [.int .u8 xw, .int .u8 xa, .int .u8 xb, .int .u8 xc, .slice pf xl.length cf6]), (7, .dat (.slice pf xl.length cf6) (.ns .u8 xl))] w) → K19 a w := by
              clear ha86 m87
              rintro a88 w88 ⟨D6, pf, cf6, pc1, pd1, pl1, pc2, pd2, pl2, p5, cc1, cd1, cl1, cc2, cd2, cl2, c5, hxl6, ha88, m88⟩
              refine hK19 _ _ ?_; clear hK19; try clear K19
              refine wp_seq_k (fun K20 hK20 => ?_)
              have hC20 : ∀ (a : Act) (w : World), (∃ (bi bt : Int) (cf d : List Int) (es : List (Int × Int × Int × List Int)) (D6 : Nat) (pf : Option Addr) (cf6 : Nat) (pc1 pd1 pl1 pc2 pd2 pl2 p5 : Option Addr) (cc1 cd1 cl1 cc2 cd2 cl2 c5 : Nat), StOk (40 + 11 * (i + 1)) bi bt cf d es ∧ Has 294 [(2, .slice p5 acts.length c5), (9, .pointer (some ⟨BB, 0, none⟩)), (10, .pointer (some ⟨CC, 0, none⟩)), (11, .int .i64 (i : Int)), (12, .pointer (some ⟨D6, 0, none⟩))] a ∧ MemOk (cx (fun _ => True) w0) w0 [(11, .box BB 56 [.int .i64 bi, .int .i64 bt, .slice pc1 cf.length cc1, .slice pd1 d.length cd1, .slice pl1 (es.map entD).length cl1]), (12, .seg (.slice pl1 (es.map entD).length cl1) 32 4 (es.map entD)), (13, .dat (.slice pc1 cf.length cc1) (.ns .i64 cf)), (14, .dat (.slice pd1 d.length cd1) (.ns .u8 d)), (21, .box CC 41 [.int .i64 bi, .int .i64 bt, .slice pc2 cf.length cc2, .slice pd2 d.length cd2, .slice pl2 (es.map entD).length cl2]), (22, .seg (.slice pl2 (es.map entD).length cl2) 32 4 (es.map entD)), (23, .dat (.slice pc2 cf.length cc2) (.ns .i64 cf)), (24, .dat (.slice pd2 d.length cd2) (.ns .u8 d)), (5, .dat (.slice p5 acts.length c5) (.l 5 (acts.map lactD))), (6, .box D6 39 [.int .u8 xw, .int .u8 xa, .int .u8 xb, .int .u8 xc, .slice pf xl.length cf6]), (7, .dat (.slice pf xl.length cf6) (.ns .u8 xl))] w) → K20 a w := by
                clear ha88 m88
                rintro a89 w89 ⟨bi, bt, cf, d, es, D6, pf, cf6, pc1, pd1, pl1, pc2, pd2, pl2, p5, cc1, cd1, cl1, cc2, cd2, cl2, c5, hst, ha89, m89⟩
                refine hK20 _ _ ?_; clear hK20; try clear K20
                refine wp_seq_k (fun K21 hK21 => ?_)
                refine wp_region_lit ?_
                refine st_y ha89 rfl (y_move ha89 rfl) ?_
                clear ha89 a89; intro a90 ha90
                refine st_y ha90 rfl (y_move ha90 rfl) ?_
                clear ha90 a90; intro a91 ha91
                refine st_y ha91 rfl (y_fieldAddr ha91 (off := 2) rfl Try.underlying39 rfl (s := 0) (by kernel_rfl) rfl) ?_
                clear ha91 a91; intro a92 ha92
                refine st_y ha92 rfl (y_loadB1 ha92 m89 (i := 6) rfl rfl rfl Try.underlying5 rfl) ?_
                clear ha92 a92; intro a93 ha93
                refine st_y ha93 rfl (y_rem ha93 rfl rfl (by decide) (Int.tmod_eq_emod_of_nonneg (by omega))) ?_
                clear ha93 a93; intro a94 ha94
                refine st_y ha94 rfl (y_conv ha94 rfl Try.underlying5 Try.underlying3 (r := xb % 4) (IntWalk.i64_in _ (by omega))) ?_
                clear ha94 a94; intro a95 ha95
                refine wpList_plain rfl (fun K hK => ?_)
                refine e_call ha95 Try.func11 rfl rfl rfl rfl (alike_fr _ _ _ bi bt cf d es _ _ _ _ _ _ _ _ _ _ _ _ _ _ hst.bi1 hst.len hst.seq hst.ok hst.b hst.r hst.cf (by have := hst.d; omega) (m89.into [(1, 11), (2, 12), (3, 13), (4, 14), (11, 21), (12, 22), (13, 23), (14, 24)] (by decide) rfl)) ?_
                rintro e w96 ⟨pl96, cl96, rfl, hm96⟩
                have mx96 := m89.back hm96 [(11, 1), (12, 2), (13, 3), (14, 4), (21, 11), (22, 12), (23, 13), (24, 14)] (by decide); clear hm96 m89
                have m96 : MemOk _ _ [(11, _), (12, _), (13, _), (14, _), (21, _), (22, _), (23, _), (24, _), (5, _), (6, _), (7, _)] _ := mx96.only [11, 12, 13, 14, 21, 22, 23, 24, 5, 6, 7]; clear mx96
                refine ⟨_, rfl, fun a97 ha97 => ?_⟩; clear ha95 a95
                refine hK _ _ ?_; clear hK K
                refine st_y ha97 rfl (y_not ha97 rfl) ?_
                clear ha97 a97; intro a98 ha98
                refine wpList_nil ?_
                refine hK21 _ _ ?_; clear hK21; try clear K21
                refine wp_cond_false (ha98.ev (x := .tmp 293) rfl) ?_
                refine wp_skip ?_
                refine hK17 _ _ ?_; clear hK17; try clear K17
                have ha99 : Has 294 [(2, _), (9, _), (10, _), (11, _), (12, _)] a98 := ha98.only [2, 9, 10, 11, 12]; clear ha98
                refine wp_region_lit ?_
                refine st_y ha99 rfl (y_move ha99 rfl) ?_
                clear ha99 a98; intro a100 ha100
                refine st_y ha100 rfl (y_add ha100 rfl rfl (r := ((i + 1 : Nat) : Int)) (by rw [IntWalk.i64_in _ (by omega)]; omega)) ?_
                clear ha100 a100; intro a101 ha101
                refine st_y ha101 rfl (y_assign ha101 rfl) ?_
                clear ha101 a101; intro a102 ha102
                refine wpList_nil ?_
                show ∃ n', n' < _ ∧ _
                exact ⟨acts.length - (i + 1), by omega, i + 1, _, _, bi, bt, cf, d, es, _, _, _, _, _, _, _, _, _, _, _, _, _, _, by omega, rfl, hst, ha102.only [2, 9, 10, 11], m96.only [11, 12, 13, 14, 21, 22, 23, 24, 5]⟩
              refine wp_seq_k (fun K22 hK22 => ?_)
              refine wp_region_lit ?_
              refine st_y ha88 rfl (y_fieldAddr ha88 (off := 0) rfl Try.underlying39 rfl (s := 0) (by kernel_rfl) rfl) ?_
              clear ha88 a88; intro a103 ha103
              refine st_y ha103 rfl (y_loadB1 ha103 m88 (i := 6) rfl rfl rfl Try.underlying5 rfl) ?_
              clear ha103 a103; intro a104 ha104
              refine st_y ha104 rfl (y_rem ha104 rfl rfl (by decide) rfl) ?_
              clear ha104 a104; intro a105 ha105
              refine wpList_nil ?_
              refine hK22 _ _ ?_; clear hK22; try clear K22
              refine wp_block ?_
              refine wp_seq_k (fun K23 hK23 => ?_)
              have hC23 : ∀ (a : Act) (w : World), (∃ (bb : Bool), Has 294 [(2, .slice p5 acts.length c5), (9, .pointer (some ⟨BB, 0, none⟩)), (10, .pointer (some ⟨CC, 0, none⟩)), (11, .int .i64 (i : Int)), (12, .pointer (some ⟨D6, 0, none⟩)), (92, .int .u8 (xw.tmod 8)), (117, .bool bb)] a ∧ MemOk (cx (fun _ => True) w0) w0 [(11, .box BB 56 [.int .i64 bi, .int .i64 bt, .slice pc1 cf.length cc1, .slice pd1 d.length cd1, .slice pl1 (es.map entD).length cl1]), (12, .seg (.slice pl1 (es.map entD).length cl1) 32 4 (es.map entD)), (13, .dat (.slice pc1 cf.length cc1) (.ns .i64 cf)), (14, .dat (.slice pd1 d.length cd1) (.ns .u8 d)), (21, .box CC 41 [.int .i64 bi, .int .i64 bt, .slice pc2 cf.length cc2, .slice pd2 d.length cd2, .slice pl2 (es.map entD).length cl2]), (22, .seg (.slice pl2 (es.map entD).length cl2) 32 4 (es.map entD)), (23, .dat (.slice pc2 cf.length cc2) (.ns .i64 cf)), (24, .dat (.slice pd2 d.length cd2) (.ns .u8 d)), (5, .dat (.slice p5 acts.length c5) (.l 5 (acts.map lactD))), (6, .box D6 39 [.int .u8 xw, .int .u8 xa, .int .u8 xb, .int .u8 xc, .slice pf xl.length cf6]), (7, .dat (.slice pf xl.length cf6) (.ns .u8 xl))] w) → K23 a w := by
                clear ha105 m88
                rintro a106 w106 ⟨bb, ha106, m106⟩
                refine hK23 _ _ ?_; clear hK23; try clear K23
                refine bool_cases ha106 (t := 117) rfl (fun hb107 ha107 => ?_) (fun hb107 ha107 => ?_)
                · skip
                  clear ha106
                  try simp only [decide_eq_true_eq, decide_eq_false_iff_not, Bool.not_eq_true, Bool.not_eq_false, Bool.not_eq_eq_eq_not, Bool.not_true, Bool.not_false, Bool.not_not, Int.not_lt, Int.not_le, ne_eq, Decidable.not_not] at hb107
                  refine wp_cond_true (ha107.ev (x := .tmp 117) rfl) ?_
                  refine wp_seq_k (fun K24 hK24 => ?_)
                  obtain ⟨pv, hpv⟩ : ∃ x : Int, max (bi - 2 + xa % ((es.length + 4 : Nat) : Int)) 0 = x := ⟨_, rfl⟩
                  have hpvb : 0 ≤ pv ∧ pv ≤ bi + es.length + 2 := by have := Int.emod_lt_of_pos xa (show (0 : Int) < ((es.length + 4 : Nat) : Int) by omega); have := Int.emod_nonneg xa (show ((es.length + 4 : Nat) : Int) ≠ 0 by omega); omega
                  have m108 : MemOk _ _ [(5, _), (6, _), (7, _), (11, _), (12, _), (13, _), (14, _), (21, _), (22, _), (23, _), (24, _)] _ := m106.only [5, 6, 7, 11, 12, 13, 14, 21, 22, 23, 24]; clear m106
                  refine region_m 19 (B := [(21, _), (6, _)]) (m108.to ⟨.inl rfl, .inl rfl, trivial⟩) m108 (by kernel_rfl) (fun w109 mB109 m109 => ?_); clear m108 mB109
                  refine d_y 0 ha107 rfl rfl (fun _ => (m109.to ⟨.inl rfl, .inl rfl, trivial⟩)) (by kernel_rfl) (by kernel_rfl) (by kernel_rfl) (by rfl) (fun _ _ _ h => h) (fun W => y_move ha107 rfl) ?_
                  clear ha107 a106; intro a110 ha110
                  refine d_y 1 ha110 rfl rfl (fun _ => (m109.to ⟨.inl rfl, .inl rfl, trivial⟩)) (by kernel_rfl) (by kernel_rfl) (by kernel_rfl) (by rfl) (fun _ _ _ h => h) (fun W => y_nilCheck ha110 rfl) ?_
                  clear ha110 a110; intro a111 ha111
                  refine d_y 2 ha111 rfl rfl (fun _ => (m109.to ⟨.inl rfl, .inl rfl, trivial⟩)) (by kernel_rfl) (by kernel_rfl) (by kernel_rfl) (by rfl) (fun _ _ _ h => h) (fun W => y_fieldAddr ha111 (off := 0) rfl Try.underlying41 rfl (s := 3) (by kernel_rfl) rfl) ?_
                  clear ha111 a111; intro a112 ha112
                  refine d_y 3 ha112 rfl rfl (fun _ => (m109.to ⟨.inl rfl, .inl rfl, trivial⟩)) (by kernel_rfl) (by kernel_rfl) (by kernel_rfl) (by rfl) (fun _ _ _ h => h) (fun W => y_fieldAddr ha112 (off := 0) rfl Try.underlying28 rfl (s := 0) (by kernel_rfl) rfl) ?_
                  clear ha112 a112; intro a113 ha113
                  refine d_h 4 ha113 rfl rfl (m109.to ⟨.inl rfl, .inl rfl, trivial⟩) (by kernel_rfl) (by kernel_rfl) (by kernel_rfl) (by kernel_rfl) (by kernel_rfl) (fun _ _ _ h => h) (fun W hW => y_loadB1 ha113 hW (i := 21) rfl rfl rfl Try.underlying3 rfl) ?_
                  clear ha113 a113; intro a114 ha114
                  refine d_y 5 ha114 rfl rfl (fun _ => (m109.to ⟨.inl rfl, .inl rfl, trivial⟩)) (by kernel_rfl) (by kernel_rfl) (by kernel_rfl) (by rfl) (fun _ _ _ h => h) (fun W => y_sub ha114 rfl rfl (r := bi - 2) (IntWalk.i64_in _ (by omega))) ?_
                  clear ha114 a114; intro a115 ha115
                  refine d_y 6 ha115 rfl rfl (fun _ => (m109.to ⟨.inl rfl, .inl rfl, trivial⟩)) (by kernel_rfl) (by kernel_rfl) (by kernel_rfl) (by rfl) (fun _ _ _ h => h) (fun W => y_fieldAddr ha115 (off := 1) rfl Try.underlying39 rfl (s := 0) (by kernel_rfl) rfl) ?_
                  clear ha115 a115; intro a116 ha116
                  refine d_h 7 ha116 rfl rfl (m109.to ⟨.inl rfl, .inl rfl, trivial⟩) (by kernel_rfl) (by kernel_rfl) (by kernel_rfl) (by kernel_rfl) (by kernel_rfl) (fun _ _ _ h => h) (fun W hW => y_loadB1 ha116 hW (i := 6) rfl rfl rfl Try.underlying5 rfl) ?_
                  clear ha116 a116; intro a117 ha117
                  refine d_y 8 ha117 rfl rfl (fun _ => (m109.to ⟨.inl rfl, .inl rfl, trivial⟩)) (by kernel_rfl) (by kernel_rfl) (by kernel_rfl) (by rfl) (fun _ _ _ h => h) (fun W => y_conv ha117 rfl Try.underlying5 Try.underlying3 (r := xa) (IntWalk.i64_in _ (by omega))) ?_
                  clear ha117 a117; intro a118 ha118
                  refine d_y 9 ha118 rfl rfl (fun _ => (m109.to ⟨.inl rfl, .inl rfl, trivial⟩)) (by kernel_rfl) (by kernel_rfl) (by kernel_rfl) (by rfl) (fun _ _ _ h => h) (fun W => y_move ha118 rfl) ?_
                  clear ha118 a118; intro a119 ha119
                  refine d_y 10 ha119 rfl rfl (fun _ => (m109.to ⟨.inl rfl, .inl rfl, trivial⟩)) (by kernel_rfl) (by kernel_rfl) (by kernel_rfl) (by rfl) (fun _ _ _ h => h) (fun W => y_nilCheck ha119 rfl) ?_
                  clear ha119 a119; intro a120 ha120
                  refine d_y 11 ha120 rfl rfl (fun _ => (m109.to ⟨.inl rfl, .inl rfl, trivial⟩)) (by kernel_rfl) (by kernel_rfl) (by kernel_rfl) (by rfl) (fun _ _ _ h => h) (fun W => y_fieldAddr ha120 (off := 4) rfl Try.underlying41 rfl (s := 0) (by kernel_rfl) rfl) ?_
                  clear ha120 a120; intro a121 ha121
                  refine d_h 12 ha121 rfl rfl (m109.to ⟨.inl rfl, .inl rfl, trivial⟩) (by kernel_rfl) (by kernel_rfl) (by kernel_rfl) (by kernel_rfl) (by kernel_rfl) (fun _ _ _ h => h) (fun W hW => y_loadB1 ha121 hW (i := 21) rfl rfl rfl Try.underlying29 rfl) ?_
                  clear ha121 a121; intro a122 ha122
                  refine d_y 13 ha122 rfl rfl (fun _ => (m109.to ⟨.inl rfl, .inl rfl, trivial⟩)) (by kernel_rfl) (by kernel_rfl) (by kernel_rfl) (by rfl) (fun _ _ _ h => h) (fun W => y_len ha122 rfl Try.underlying29) ?_
                  clear ha122 a122; intro a123 ha123
                  refine d_y 14 ha123 rfl rfl (fun _ => (m109.to ⟨.inl rfl, .inl rfl, trivial⟩)) (by kernel_rfl) (by kernel_rfl) (by kernel_rfl) (by rfl) (fun _ _ _ h => h) (fun W => y_add ha123 rfl rfl (r := ((es.length + 4 : Nat) : Int)) (by rw [List.length_map, IntWalk.i64_in _ (by omega)]; omega)) ?_
                  clear ha123 a123; intro a124 ha124
                  refine d_y 15 ha124 rfl rfl (fun _ => (m109.to ⟨.inl rfl, .inl rfl, trivial⟩)) (by kernel_rfl) (by kernel_rfl) (by kernel_rfl) (by rfl) (fun _ _ _ h => h) (fun W => y_rem ha124 rfl rfl (by omega) (Int.tmod_eq_emod_of_nonneg (by omega))) ?_
                  clear ha124 a124; intro a125 ha125
                  refine d_y 16 ha125 rfl rfl (fun _ => (m109.to ⟨.inl rfl, .inl rfl, trivial⟩)) (by kernel_rfl) (by kernel_rfl) (by kernel_rfl) (by rfl) (fun _ _ _ h => h) (fun W => y_add ha125 rfl rfl (IntWalk.i64_in _ (by have := Int.emod_lt_of_pos xa (show (0 : Int) < ((es.length + 4 : Nat) : Int) by omega); have := Int.emod_nonneg xa (show ((es.length + 4 : Nat) : Int) ≠ 0 by omega); omega))) ?_
                  clear ha125 a125; intro a126 ha126
                  refine d_y 17 ha126 rfl rfl (fun _ => (m109.to ⟨.inl rfl, .inl rfl, trivial⟩)) (by kernel_rfl) (by kernel_rfl) (by kernel_rfl) (by rfl) (fun _ _ _ h => h) (fun W => y_max ha126 rfl rfl (r := pv) hpv) ?_
                  clear ha126 a126; intro a127 ha127
                  refine d_y 18 ha127 rfl rfl (fun _ => (m109.to ⟨.inl rfl, .inl rfl, trivial⟩)) (by kernel_rfl) (by kernel_rfl) (by kernel_rfl) (by rfl) (fun _ _ _ h => h) (fun W => y_assign ha127 rfl) ?_
                  clear ha127 a127; intro a128 ha128
                  refine wpAnyE_done (by kernel_rfl) ?_ _
                  refine hK24 _ _ ?_; clear hK24; try clear K24
                  refine wp_seq_k (fun K25 hK25 => ?_)
                  have ha129 : Has 294 [(2, _), (9, _), (10, _), (11, _), (12, _), (92, _), (117, _), (13, _)] a128 := ha128.only [2, 9, 10, 11, 12, 92, 117, 13]; clear ha128
                  obtain ⟨tx, htx⟩ : ∃ x : Int, max (termL bi bt es pv) 0 + xb % 6 / 5 = x := ⟨_, rfl⟩
                  have htl := hst.tm pv
                  have htxb : 0 ≤ tx ∧ tx ≤ 256 := by omega
                  have m130 : MemOk _ _ [(5, _), (6, _), (7, _), (11, _), (12, _), (13, _), (14, _), (21, _), (22, _), (23, _), (24, _)] _ := m109.only [5, 6, 7, 11, 12, 13, 14, 21, 22, 23, 24]; clear m109
                  refine region_m 11 (B := [(6, _)]) (m130.to ⟨.inl rfl, trivial⟩) m130 (by kernel_rfl) (fun w131 mB131 m131 => ?_); clear m130 mB131
                  refine d_y 0 ha129 rfl rfl (fun _ => (m131.to ⟨.inl rfl, trivial⟩)) (by kernel_rfl) (by kernel_rfl) (by kernel_rfl) (by rfl) (fun _ _ _ h => h) (fun W => y_move ha129 rfl) ?_
                  clear ha129 a128; intro a132 ha132
                  refine d_y 1 ha132 rfl rfl (fun _ => (m131.to ⟨.inl rfl, trivial⟩)) (by kernel_rfl) (by kernel_rfl) (by kernel_rfl) (by rfl) (fun _ _ _ h => h) (fun W => y_move ha132 rfl) ?_
                  clear ha132 a132; intro a133 ha133
                  refine d_y 4 ha133 rfl rfl (fun _ => (m131.to ⟨.inl rfl, trivial⟩)) (by kernel_rfl) (by kernel_rfl) (by kernel_rfl) (by rfl) (fun _ _ _ h => h) (fun W => y_fieldAddr ha133 (off := 2) rfl Try.underlying39 rfl (s := 0) (by kernel_rfl) rfl) ?_
                  clear ha133 a133; intro a134 ha134
                  refine d_h 5 ha134 rfl rfl (m131.to ⟨.inl rfl, trivial⟩) (by kernel_rfl) (by kernel_rfl) (by kernel_rfl) (by kernel_rfl) (by kernel_rfl) (fun _ _ _ h => h) (fun W hW => y_loadB1 ha134 hW (i := 6) rfl rfl rfl Try.underlying5 rfl) ?_
                  clear ha134 a134; intro a135 ha135
                  refine d_y 6 ha135 rfl rfl (fun _ => (m131.to ⟨.inl rfl, trivial⟩)) (by kernel_rfl) (by kernel_rfl) (by kernel_rfl) (by rfl) (fun _ _ _ h => h) (fun W => y_rem ha135 rfl rfl (by decide) (Int.tmod_eq_emod_of_nonneg (by omega))) ?_
                  clear ha135 a135; intro a136 ha136
                  refine d_y 7 ha136 rfl rfl (fun _ => (m131.to ⟨.inl rfl, trivial⟩)) (by kernel_rfl) (by kernel_rfl) (by kernel_rfl) (by rfl) (fun _ _ _ h => h) (fun W => y_conv ha136 rfl Try.underlying5 Try.underlying3 (r := xb % 6) (IntWalk.i64_in _ (by omega))) ?_
                  clear ha136 a136; intro a137 ha137
                  refine d_y 8 ha137 rfl rfl (fun _ => (m131.to ⟨.inl rfl, trivial⟩)) (by kernel_rfl) (by kernel_rfl) (by kernel_rfl) (by rfl) (fun _ _ _ h => h) (fun W => y_quo ha137 rfl rfl (by decide) (r := xb % 6 / 5) (by rw [Int.tdiv_eq_ediv_of_nonneg (by omega)]; exact IntWalk.i64_in _ (by omega))) ?_
                  clear ha137 a137; intro a138 ha138
                  refine stepE_only 2 rfl (by kernel_rfl) rfl (fun K hK => ?_)
                  refine e_call ha138 Try.func12 rfl rfl rfl rfl (rterm_any _ bi bt cf d es _ _ _ _ _ _ _ _ (m131.ok 21 _ rfl : Res.ok _ _ _ _ (.box _ _ _)).1 ((m131.ok 22 _ rfl : Res.ok _ _ _ _ (.seg _ _ _ _)).1.rd (S' := fun _ => True) (fun _ _ _ => trivial) (fun _ _ => trivial)) (by omega) (by omega)) ?_
                  rintro e w139 ⟨rfl, hb139⟩
                  have m140 := m131.later hb139
                  clear m131
                  clear hb139
                  refine ⟨_, rfl, fun a141 ha141 => ?_⟩; clear ha138 a138
                  refine hK _ _ (m140.to ⟨.inl rfl, trivial⟩) ?_; clear hK K
                  refine d_y 3 ha141 rfl rfl (fun _ => (m140.to ⟨.inl rfl, trivial⟩)) (by kernel_rfl) (by kernel_rfl) (by kernel_rfl) (by rfl) (fun _ _ _ h => h) (fun W => y_max ha141 rfl rfl rfl) ?_
                  clear ha141 a141; intro a142 ha142
                  refine d_y 9 ha142 rfl rfl (fun _ => (m140.to ⟨.inl rfl, trivial⟩)) (by kernel_rfl) (by kernel_rfl) (by kernel_rfl) (by rfl) (fun _ _ _ h => h) (fun W => y_add ha142 rfl rfl (r := tx) (by rw [← htx]; exact IntWalk.i64_in _ (by omega))) ?_
                  clear ha142 a142; intro a143 ha143
                  refine d_y 10 ha143 rfl rfl (fun _ => (m140.to ⟨.inl rfl, trivial⟩)) (by kernel_rfl) (by kernel_rfl) (by kernel_rfl) (by rfl) (fun _ _ _ h => h) (fun W => y_assign ha143 rfl) ?_
                  clear ha143 a143; intro a144 ha144
                  refine wpAnyE_done (by kernel_rfl) ?_ _
                  refine hK25 _ _ ?_; clear hK25; try clear K25
                  refine wp_seq_k (fun K26 hK26 => ?_)
                  obtain ⟨mm0, hmm0⟩ : ∃ x, entsN (pv + 1) xl xl.length = x := ⟨_, rfl⟩
                  have hmm0l : mm0.length = xl.length := by rw [← hmm0, entsN_len]
                  have hsm0 : Seq pv mm0 := by have := seq_ents (pv + 1) xl; rw [hmm0] at this; intro j hj; have := this j hj; omega
                  have hmg0 : ∀ e ∈ mm0, EG e := by rw [← hmm0]; exact ents_eg hxlb (by omega)
                  have ha145 : Has 294 [(2, _), (9, _), (10, _), (11, _), (12, _), (92, _), (117, _), (13, _), (14, _)] a144 := ha144.only [2, 9, 10, 11, 12, 92, 117, 13, 14]; clear ha144
                  refine wp_region_lit ?_
                  refine st_y ha145 rfl (y_move ha145 rfl) ?_
                  clear ha145 a144; intro a146 ha146
                  refine st_y ha146 rfl (y_add ha146 rfl rfl (r := pv + 1) (IntWalk.i64_in _ (by omega))) ?_
                  clear ha146 a146; intro a147 ha147
                  refine st_y ha147 rfl (y_fieldAddr ha147 (off := 4) rfl Try.underlying39 rfl (s := 0) (by kernel_rfl) rfl) ?_
                  clear ha147 a147; intro a148 ha148
                  refine st_y ha148 rfl (y_loadB1 ha148 m140 (i := 6) rfl rfl rfl Try.underlying23 rfl) ?_
                  clear ha148 a148; intro a149 ha149
                  refine wpList_plain rfl (fun K hK => ?_)
                  refine e_call ha149 Try.func8 rfl rfl rfl rfl (ents_own (pv + 1) xl _ _ _ ((m140.rd (i := 7) rfl).any) (by omega) (by omega) hxlb) ?_
                  rintro e w150 ⟨p150, c150, rfl, ho150, hb150⟩
                  have m151 := m140.callR 400 hb150 (ho150.cast (fun b h => ⟨h.1.elim False.elim .inr, h.2⟩))
                  clear m140
                  have m152 := m151.rowS 400 rfl
                  clear m151
                  clear hb150 ho150
                  refine ⟨_, rfl, fun a153 ha153 => ?_⟩; clear ha149 a149
                  refine hK _ _ ?_; clear hK K
                  rw [hmm0] at m152 ha153
                  refine st_y ha153 rfl (y_assign ha153 rfl) ?_
                  clear ha153 a153; intro a154 ha154
                  refine wpList_nil ?_
                  refine hK26 _ _ ?_; clear hK26; try clear K26
                  refine wp_seq_k (fun K27 hK27 => ?_)
                  refine wp_seq_k (fun K28 hK28 => ?_)
                  refine wp_region_lit ?_
                  refine st_y ha154 rfl (y_assign ha154 rfl) ?_
                  clear ha154 a154; intro a155 ha155
                  refine wpList_nil ?_
                  refine hK28 _ _ ?_; clear hK28; try clear K28
                  refine wp_block ?_
                  refine wp_loop_ghost (fun g a w => ∃ (k : Nat) (mm : List (Int × Int × Int × List Int)) (pm : Option Addr) (cm : Nat) (D6 : Nat) (pf : Option Addr) (cf6 : Nat) (pc1 pd1 pl1 pc2 pd2 pl2 p5 : Option Addr) (cc1 cd1 cl1 cc2 cd2 cl2 c5 : Nat), k ≤ mm.length ∧ g = mm.length - k ∧ mm.length ≤ 6 ∧ Seq pv mm ∧ (∀ e ∈ mm, EG e) ∧ Has 294 [(2, .slice p5 acts.length c5), (9, .pointer (some ⟨BB, 0, none⟩)), (10, .pointer (some ⟨CC, 0, none⟩)), (11, .int .i64 (i : Int)), (12, .pointer (some ⟨D6, 0, none⟩)), (13, .int .i64 pv), (14, .int .i64 tx), (15, .slice pm (mm.map entD).length cm), (16, .int .i64 (k : Int))] a ∧ MemOk (cx (fun _ => True) w0) w0 [(11, .box BB 56 [.int .i64 bi, .int .i64 bt, .slice pc1 cf.length cc1, .slice pd1 d.length cd1, .slice pl1 (es.map entD).length cl1]), (12, .seg (.slice pl1 (es.map entD).length cl1) 32 4 (es.map entD)), (13, .dat (.slice pc1 cf.length cc1) (.ns .i64 cf)), (14, .dat (.slice pd1 d.length cd1) (.ns .u8 d)), (21, .box CC 41 [.int .i64 bi, .int .i64 bt, .slice pc2 cf.length cc2, .slice pd2 d.length cd2, .slice pl2 (es.map entD).length cl2]), (22, .seg (.slice pl2 (es.map entD).length cl2) 32 4 (es.map entD)), (23, .dat (.slice pc2 cf.length cc2) (.ns .i64 cf)), (24, .dat (.slice pd2 d.length cd2) (.ns .u8 d)), (5, .dat (.slice p5 acts.length c5) (.l 5 (acts.map lactD))), (6, .box D6 39 [.int .u8 xw, .int .u8 xa, .int .u8 xb, .int .u8 xc, .slice pf xl.length cf6]), (7, .dat (.slice pf xl.length cf6) (.ns .u8 xl)), (30, .seg (.slice pm (mm.map entD).length cm) 32 4 (mm.map entD))] w) (mm0.length) ?_ ?_
                  · exact ⟨0, mm0, _, _, _, _, _, _, _, _, _, _, _, _, _, _, _, _, _, _, _, Nat.zero_le _, rfl, by omega, hsm0, hmg0, ha155.only [2, 9, 10, 11, 12, 13, 14, 15, 16], m152.ren [(11, 11), (12, 12), (13, 13), (14, 14), (21, 21), (22, 22), (23, 23), (24, 24), (5, 5), (6, 6), (7, 7), (30, 400)] (by decide)⟩
                  · skip
                    clear ha155 m152
                    rintro g a156 w156 ⟨k, mm, pm, cm, D6, pf, cf6, pc1, pd1, pl1, pc2, pd2, pl2, p5, cc1, cd1, cl1, cc2, cd2, cl2, c5, hkl, hg2, hmml, hsm, hmg, ha156, m156⟩
                    refine wp_seq_k (fun K29 hK29 => ?_)
                    refine wp_seq_k (fun K30 hK30 => ?_)
                    refine wp_region_lit ?_
                    refine st_y ha156 rfl (y_move ha156 rfl) ?_
                    clear ha156 a156; intro a157 ha157
                    refine st_y ha157 rfl (y_move ha157 rfl) ?_
                    clear ha157 a157; intro a158 ha158
                    refine st_y ha158 rfl (y_len ha158 rfl Try.underlying29) ?_
                    clear ha158 a158; intro a159 ha159
                    refine st_y ha159 rfl (y_lss ha159 rfl rfl) ?_
                    clear ha159 a159; intro a160 ha160
                    refine wpList_nil ?_
                    refine hK30 _ _ ?_; clear hK30; try clear K30
                    refine bool_cases ha160 (t := 158) rfl (fun hb161 ha161 => ?_) (fun hb161 ha161 => ?_)
                    · skip
                      clear ha160
                      try simp only [decide_eq_true_eq, decide_eq_false_iff_not, Bool.not_eq_true, Bool.not_eq_false, Bool.not_eq_eq_eq_not, Bool.not_true, Bool.not_false, Bool.not_not, Int.not_lt, Int.not_le, ne_eq, Decidable.not_not] at hb161
                      have hk : k < mm.length := by rw [List.length_map] at hb161; omega
                      obtain ⟨⟨ei, et, ek, ed⟩, hem⟩ : ∃ e, mm[k]? = some e := ⟨_, List.getElem?_eq_getElem hk⟩
                      refine wp_cond_true (ha161.ev (x := .tmp 158) rfl) ?_
                      refine wp_skip ?_
                      refine hK29 _ _ ?_; clear hK29; try clear K29
                      refine wp_seq_k (fun K31 hK31 => ?_)
                      refine wp_block ?_
                      refine wp_seq_k (fun K32 hK32 => ?_)
                      refine wp_region_lit ?_
                      refine st_y ha161 rfl (y_move ha161 rfl) ?_
                      clear ha161 a160; intro a162 ha162
                      refine st_y ha162 rfl (y_move ha162 rfl) ?_
                      clear ha162 a162; intro a163 ha163
                      refine st_y ha163 rfl (y_move ha163 rfl) ?_
                      clear ha163 a163; intro a164 ha164
                      obtain ⟨gs165, os165, vs165, hp165, hl165, hR165, hrg165⟩ := m156.openS (i := 30) rfl (k) (r := [.v (.int .i64 ei), .v (.int .i64 et), .v (.int .i64 ek), .ns .u8 ed]) (ent_get hem)
                      cases hp165; clear hl165 hR165 hrg165 vs165
                      refine st_y ha164 rfl (y_idx ha164 rfl rfl Try.underlying29 sz32lp (k) rfl (by rw [List.length_map]; exact hk)) ?_
                      clear ha164 a164; intro a166 ha166
                      refine st_y ha166 rfl (y_fieldAddrQ ha166 0 rfl Try.underlying32 rfl (s := 0) (by kernel_rfl) rfl) ?_
                      clear ha166 a166; intro a167 ha167
                      refine st_y ha167 rfl (y_loadSV ha167 m156 (i := 30) rfl (k) (r := [.v (.int .i64 ei), .v (.int .i64 et), .v (.int .i64 ek), .ns .u8 ed]) (ent_get hem) (q := 0) rfl rfl rfl Try.underlying3 rfl) ?_
                      clear ha167 a167; intro a168 ha168
                      refine wpList_plain rfl (fun K hK => ?_)
                      refine e_call ha168 Try.func12 rfl rfl rfl rfl (rterm_any _ bi bt cf d es _ _ _ _ _ _ _ _ (m156.ok 21 _ rfl : Res.ok _ _ _ _ (.box _ _ _)).1 ((m156.ok 22 _ rfl : Res.ok _ _ _ _ (.seg _ _ _ _)).1.rd (S' := fun _ => True) (fun _ _ _ => trivial) (fun _ _ => trivial)) (by omega) (by omega)) ?_
                      rintro e w169 ⟨rfl, hb169⟩
                      have m170 := m156.later hb169
                      clear m156
                      clear hb169
                      refine ⟨_, rfl, fun a171 ha171 => ?_⟩; clear ha168 a168
                      refine hK _ _ ?_; clear hK K
                      refine st_y ha171 rfl (y_assign ha171 rfl) ?_
                      clear ha171 a171; intro a172 ha172
                      refine wpList_nil ?_
                      refine hK32 _ _ ?_; clear hK32; try clear K32
                      refine wp_seq_k (fun K33 hK33 => ?_)
                      have ha173 : Has 294 [(2, _), (9, _), (10, _), (11, _), (12, _), (13, _), (14, _), (15, _), (16, _), (17, _)] a172 := ha172.only [2, 9, 10, 11, 12, 13, 14, 15, 16, 17]; clear ha172
                      refine wp_region_lit ?_
                      refine st_y ha173 rfl (y_move ha173 rfl) ?_
                      clear ha173 a172; intro a174 ha174
                      refine st_y ha174 rfl (y_geq ha174 rfl rfl) ?_
                      clear ha174 a174; intro a175 ha175
                      refine st_y ha175 rfl (y_move ha175 rfl) ?_
                      clear ha175 a175; intro a176 ha176
                      refine bool_cases ha176 (t := 170) rfl (fun hb177 ha177 => ?_) (fun hb177 ha177 => ?_)
                      · skip
                        clear ha176
                        try simp only [decide_eq_true_eq, decide_eq_false_iff_not, Bool.not_eq_true, Bool.not_eq_false, Bool.not_eq_eq_eq_not, Bool.not_true, Bool.not_false, Bool.not_not, Int.not_lt, Int.not_le, ne_eq, Decidable.not_not] at hb177
                        refine st_g ha177 rfl rfl rfl rfl (y_fieldAddr ha177 (off := 3) rfl Try.underlying39 rfl (s := 0) (by kernel_rfl) rfl) ?_
                        clear ha177 a176; intro a178 ha178
                        refine st_g ha178 rfl rfl rfl rfl (y_loadB1 ha178 m170 (i := 6) rfl rfl rfl Try.underlying5 rfl) ?_
                        clear ha178 a178; intro a179 ha179
                        refine st_g ha179 rfl rfl rfl rfl (y_rem ha179 rfl rfl (by decide) (Int.tmod_eq_emod_of_nonneg (by omega))) ?_
                        clear ha179 a179; intro a180 ha180
                        refine st_g ha180 rfl rfl rfl rfl (y_gtr ha180 rfl rfl) ?_
                        clear ha180 a180; intro a181 ha181
                        refine st_y ha181 rfl (y_pickT ha181 rfl rfl) ?_
                        clear ha181 a181; intro a182 ha182
                        refine st_y ha182 rfl (y_move ha182 rfl) ?_
                        clear ha182 a182; intro a183 ha183
                        refine bool_cases ha183 (t := 176) rfl (fun hb184 ha184 => ?_) (fun hb184 ha184 => ?_)
                        · skip
                          clear ha183
                          try simp only [decide_eq_true_eq, decide_eq_false_iff_not, Bool.not_eq_true, Bool.not_eq_false, Bool.not_eq_eq_eq_not, Bool.not_true, Bool.not_false, Bool.not_not, Int.not_lt, Int.not_le, ne_eq, Decidable.not_not] at hb184
                          refine st_g ha184 rfl rfl rfl rfl (y_move ha184 rfl) ?_
                          clear ha184 a183; intro a185 ha185
                          refine st_g ha185 rfl rfl rfl rfl (y_fieldAddr ha185 (off := 3) rfl Try.underlying39 rfl (s := 0) (by kernel_rfl) rfl) ?_
                          clear ha185 a185; intro a186 ha186
                          refine st_g ha186 rfl rfl rfl rfl (y_loadB1 ha186 m170 (i := 6) rfl rfl rfl Try.underlying5 rfl) ?_
                          clear ha186 a186; intro a187 ha187
                          refine st_g ha187 rfl rfl rfl rfl (y_rem ha187 rfl rfl (by decide) (Int.tmod_eq_emod_of_nonneg (by omega))) ?_
                          clear ha187 a187; intro a188 ha188
                          refine st_g ha188 rfl rfl rfl rfl (y_conv ha188 rfl Try.underlying5 Try.underlying3 (r := xc % 5) (IntWalk.i64_in _ (by omega))) ?_
                          clear ha188 a188; intro a189 ha189
                          refine st_g ha189 rfl rfl rfl rfl (y_lss ha189 rfl rfl) ?_
                          clear ha189 a189; intro a190 ha190
                          refine st_y ha190 rfl (y_pickT ha190 rfl rfl) ?_
                          clear ha190 a190; intro a191 ha191
                          refine wpList_nil ?_
                          refine hK33 _ _ ?_; clear hK33; try clear K33
                          refine bool_cases ha191 (t := 183) rfl (fun hb192 ha192 => ?_) (fun hb192 ha192 => ?_)
                          · skip
                            clear ha191
                            try simp only [decide_eq_true_eq, decide_eq_false_iff_not, Bool.not_eq_true, Bool.not_eq_false, Bool.not_eq_eq_eq_not, Bool.not_true, Bool.not_false, Bool.not_not, Int.not_lt, Int.not_le, ne_eq, Decidable.not_not] at hb192
                            refine wp_cond_true (ha192.ev (x := .tmp 183) rfl) ?_
                            have ha193 : Has 294 [(2, _), (9, _), (10, _), (11, _), (12, _), (13, _), (14, _), (15, _), (16, _), (17, _), (183, _)] a191 := ha192.only [2, 9, 10, 11, 12, 13, 14, 15, 16, 17, 183]; clear ha192
                            refine wp_region_lit ?_
                            refine st_y ha193 rfl (y_move ha193 rfl) ?_
                            clear ha193 a191; intro a194 ha194
                            refine st_y ha194 rfl (y_move ha194 rfl) ?_
                            clear ha194 a194; intro a195 ha195
                            refine st_y ha195 rfl (y_move ha195 rfl) ?_
                            clear ha195 a195; intro a196 ha196
                            obtain ⟨gs197, os197, vs197, hp197, hl197, hR197, hrg197⟩ := m170.openS (i := 30) rfl (k) (r := [.v (.int .i64 ei), .v (.int .i64 et), .v (.int .i64 ek), .ns .u8 ed]) (ent_get hem)
                            cases hp197; clear hl197 hR197 hrg197 vs197
                            refine st_y ha196 rfl (y_idx ha196 rfl rfl Try.underlying29 sz32lp (k) rfl (by rw [List.length_map]; exact hk)) ?_
                            clear ha196 a196; intro a198 ha198
                            refine st_y ha198 rfl (y_fieldAddrQ ha198 1 rfl Try.underlying32 rfl (s := 0) (by kernel_rfl) rfl) ?_
                            clear ha198 a198; intro a199 ha199
                            refine wpList_plain rfl (fun K hK => ?_)
                            refine e_storeSV ha199 m170 30 rfl (k) (r := [.v (.int .i64 ei), .v (.int .i64 et), .v (.int .i64 ek), .ns .u8 ed]) (ent_get hem) (q := 1) rfl rfl rfl rfl rfl sz3lp ?_
                            clear m170; intro w200 m200 
                            refine hK _ _ ?_; clear hK K
                            have hset : (mm.map entD).set k ([D.v (.int .i64 ei), .v (.int .i64 et), .v (.int .i64 ek), .ns .u8 ed].set 1 (.v (.int .i64 (termL bi bt es ei)))) = (mm.set k (ei, termL bi bt es ei, ek, ed)).map entD := by rw [List.map_set]; rfl
                            rw [hset] at m200
                            refine wpList_nil ?_
                            refine hK31 _ _ ?_; clear hK31; try clear K31
                            have ha201 : Has 294 [(2, _), (9, _), (10, _), (11, _), (12, _), (13, _), (14, _), (15, _), (16, _), (183, _)] a199 := ha199.only [2, 9, 10, 11, 12, 13, 14, 15, 16, 183]; clear ha199
                            refine wp_region_lit ?_
                            refine st_y ha201 rfl (y_move ha201 rfl) ?_
                            clear ha201 a199; intro a202 ha202
                            refine st_y ha202 rfl (y_add ha202 rfl rfl (r := ((k + 1 : Nat) : Int)) (by rw [IntWalk.i64_in _ (by omega)]; omega)) ?_
                            clear ha202 a202; intro a203 ha203
                            refine st_y ha203 rfl (y_assign ha203 rfl) ?_
                            clear ha203 a203; intro a204 ha204
                            refine wpList_nil ?_
                            show ∃ n', n' < _ ∧ _
                            rw [show (List.map entD mm).length = (List.map entD (mm.set k (ei, termL bi bt es ei, ek, ed))).length from by simp] at ha204 m200
                            exact ⟨mm.length - (k + 1), by omega, k + 1, mm.set k (ei, termL bi bt es ei, ek, ed), _, _, _, _, _, _, _, _, _, _, _, _, _, _, _, _, _, _, _, by rw [List.length_set]; omega, by rw [List.length_set], by rw [List.length_set]; omega, seq_set hsm hem, eg_set hmg (eg_term (hmg _ (List.mem_of_getElem? hem)) (by omega) (hst.tm _)), ha204.only [2, 9, 10, 11, 12, 13, 14, 15, 16], m200.only [11, 12, 13, 14, 21, 22, 23, 24, 5, 6, 7, 30]⟩
                          · skip
                            clear ha191
                            try simp only [decide_eq_true_eq, decide_eq_false_iff_not, Bool.not_eq_true, Bool.not_eq_false, Bool.not_eq_eq_eq_not, Bool.not_true, Bool.not_false, Bool.not_not, Int.not_lt, Int.not_le, ne_eq, Decidable.not_not] at hb192
                            refine wp_cond_false (ha192.ev (x := .tmp 183) rfl) ?_
                            refine wp_skip ?_
                            refine hK31 _ _ ?_; clear hK31; try clear K31
                            have ha205 : Has 294 [(2, _), (9, _), (10, _), (11, _), (12, _), (13, _), (14, _), (15, _), (16, _), (183, _)] a191 := ha192.only [2, 9, 10, 11, 12, 13, 14, 15, 16, 183]; clear ha192
                            refine wp_region_lit ?_
                            refine st_y ha205 rfl (y_move ha205 rfl) ?_
                            clear ha205 a191; intro a206 ha206
                            refine st_y ha206 rfl (y_add ha206 rfl rfl (r := ((k + 1 : Nat) : Int)) (by rw [IntWalk.i64_in _ (by omega)]; omega)) ?_
                            clear ha206 a206; intro a207 ha207
                            refine st_y ha207 rfl (y_assign ha207 rfl) ?_
                            clear ha207 a207; intro a208 ha208
                            refine wpList_nil ?_
                            show ∃ n', n' < _ ∧ _
                            exact ⟨mm.length - (k + 1), by omega, k + 1, mm, _, _, _, _, _, _, _, _, _, _, _, _, _, _, _, _, _, _, _, by omega, rfl, by omega, hsm, hmg, ha208.only [2, 9, 10, 11, 12, 13, 14, 15, 16], m170.only [11, 12, 13, 14, 21, 22, 23, 24, 5, 6, 7, 30]⟩
                        · skip
                          clear ha183
                          try simp only [decide_eq_true_eq, decide_eq_false_iff_not, Bool.not_eq_true, Bool.not_eq_false, Bool.not_eq_eq_eq_not, Bool.not_true, Bool.not_false, Bool.not_not, Int.not_lt, Int.not_le, ne_eq, Decidable.not_not] at hb184
                          refine st_skip ha184 rfl rfl rfl rfl ?_
                          clear ha184 a183; intro a209 ha209
                          refine st_skip ha209 rfl rfl rfl rfl ?_
                          clear ha209 a209; intro a210 ha210
                          refine st_skip ha210 rfl rfl rfl rfl ?_
                          clear ha210 a210; intro a211 ha211
                          refine st_skip ha211 rfl rfl rfl rfl ?_
                          clear ha211 a211; intro a212 ha212
                          refine st_skip ha212 rfl rfl rfl rfl ?_
                          clear ha212 a212; intro a213 ha213
                          refine st_skip ha213 rfl rfl rfl rfl ?_
                          clear ha213 a213; intro a214 ha214
                          refine st_y ha214 rfl (y_pickF ha214 rfl rfl) ?_
                          clear ha214 a214; intro a215 ha215
                          refine wpList_nil ?_
                          refine hK33 _ _ ?_; clear hK33; try clear K33
                          refine wp_cond_false (ha215.ev (x := .tmp 183) rfl) ?_
                          refine wp_skip ?_
                          refine hK31 _ _ ?_; clear hK31; try clear K31
                          have ha216 : Has 294 [(2, _), (9, _), (10, _), (11, _), (12, _), (13, _), (14, _), (15, _), (16, _), (183, _)] a215 := ha215.only [2, 9, 10, 11, 12, 13, 14, 15, 16, 183]; clear ha215
                          refine wp_region_lit ?_
                          refine st_y ha216 rfl (y_move ha216 rfl) ?_
                          clear ha216 a215; intro a217 ha217
                          refine st_y ha217 rfl (y_add ha217 rfl rfl (r := ((k + 1 : Nat) : Int)) (by rw [IntWalk.i64_in _ (by omega)]; omega)) ?_
                          clear ha217 a217; intro a218 ha218
                          refine st_y ha218 rfl (y_assign ha218 rfl) ?_
                          clear ha218 a218; intro a219 ha219
                          refine wpList_nil ?_
                          show ∃ n', n' < _ ∧ _
                          exact ⟨mm.length - (k + 1), by omega, k + 1, mm, _, _, _, _, _, _, _, _, _, _, _, _, _, _, _, _, _, _, _, by omega, rfl, by omega, hsm, hmg, ha219.only [2, 9, 10, 11, 12, 13, 14, 15, 16], m170.only [11, 12, 13, 14, 21, 22, 23, 24, 5, 6, 7, 30]⟩
                      · skip
                        clear ha176
                        try simp only [decide_eq_true_eq, decide_eq_false_iff_not, Bool.not_eq_true, Bool.not_eq_false, Bool.not_eq_eq_eq_not, Bool.not_true, Bool.not_false, Bool.not_not, Int.not_lt, Int.not_le, ne_eq, Decidable.not_not] at hb177
                        refine st_skip ha177 rfl rfl rfl rfl ?_
                        clear ha177 a176; intro a220 ha220
                        refine st_skip ha220 rfl rfl rfl rfl ?_
                        clear ha220 a220; intro a221 ha221
                        refine st_skip ha221 rfl rfl rfl rfl ?_
                        clear ha221 a221; intro a222 ha222
                        refine st_skip ha222 rfl rfl rfl rfl ?_
                        clear ha222 a222; intro a223 ha223
                        refine st_y ha223 rfl (y_pickF ha223 rfl rfl) ?_
                        clear ha223 a223; intro a224 ha224
                        refine st_y ha224 rfl (y_move ha224 rfl) ?_
                        clear ha224 a224; intro a225 ha225
                        refine st_skip ha225 rfl rfl rfl rfl ?_
                        clear ha225 a225; intro a226 ha226
                        refine st_skip ha226 rfl rfl rfl rfl ?_
                        clear ha226 a226; intro a227 ha227
                        refine st_skip ha227 rfl rfl rfl rfl ?_
                        clear ha227 a227; intro a228 ha228
                        refine st_skip ha228 rfl rfl rfl rfl ?_
                        clear ha228 a228; intro a229 ha229
                        refine st_skip ha229 rfl rfl rfl rfl ?_
                        clear ha229 a229; intro a230 ha230
                        refine st_skip ha230 rfl rfl rfl rfl ?_
                        clear ha230 a230; intro a231 ha231
                        refine st_y ha231 rfl (y_pickF ha231 rfl rfl) ?_
                        clear ha231 a231; intro a232 ha232
                        refine wpList_nil ?_
                        refine hK33 _ _ ?_; clear hK33; try clear K33
                        refine wp_cond_false (ha232.ev (x := .tmp 183) rfl) ?_
                        refine wp_skip ?_
                        refine hK31 _ _ ?_; clear hK31; try clear K31
                        have ha233 : Has 294 [(2, _), (9, _), (10, _), (11, _), (12, _), (13, _), (14, _), (15, _), (16, _), (183, _)] a232 := ha232.only [2, 9, 10, 11, 12, 13, 14, 15, 16, 183]; clear ha232
                        refine wp_region_lit ?_
                        refine st_y ha233 rfl (y_move ha233 rfl) ?_
                        clear ha233 a232; intro a234 ha234
                        refine st_y ha234 rfl (y_add ha234 rfl rfl (r := ((k + 1 : Nat) : Int)) (by rw [IntWalk.i64_in _ (by omega)]; omega)) ?_
                        clear ha234 a234; intro a235 ha235
                        refine st_y ha235 rfl (y_assign ha235 rfl) ?_
                        clear ha235 a235; intro a236 ha236
                        refine wpList_nil ?_
                        show ∃ n', n' < _ ∧ _
                        exact ⟨mm.length - (k + 1), by omega, k + 1, mm, _, _, _, _, _, _, _, _, _, _, _, _, _, _, _, _, _, _, _, by omega, rfl, by omega, hsm, hmg, ha236.only [2, 9, 10, 11, 12, 13, 14, 15, 16], m170.only [11, 12, 13, 14, 21, 22, 23, 24, 5, 6, 7, 30]⟩
                    · skip
                      clear ha160
                      try simp only [decide_eq_true_eq, decide_eq_false_iff_not, Bool.not_eq_true, Bool.not_eq_false, Bool.not_eq_eq_eq_not, Bool.not_true, Bool.not_false, Bool.not_not, Int.not_lt, Int.not_le, ne_eq, Decidable.not_not] at hb161
                      obtain rfl : k = mm.length := by rw [List.length_map] at hb161; omega
                      refine wp_cond_false (ha161.ev (x := .tmp 158) rfl) ?_
                      refine wp_exit ?_
                      refine hK27 _ _ ?_; clear hK27; try clear K27
                      refine wp_seq_k (fun K34 hK34 => ?_)
                      by_cases hH : bi ≤ pv → pv ≤ bi + es.length ∧ termL bi bt es pv = tx
                      · skip
                        have m237 := m156.freezeS 30 rfl (by simp [cx]); clear m156
                        rw [show (List.map entD mm).length = mm.length from List.length_map _] at ha161 m237
                        have htm : TermsOk mm := fun e he => (hmg e he).1
                        have hmok : EntsOk mm := fun e he => by have := (hmg e he).2.2.1; omega
                        obtain ⟨l2, es2, lst, hR⟩ : ∃ l2 es2 lst, folR pv bi es mm = (l2, es2, lst) := ⟨_, _, _, rfl⟩
                        have hl2 : l2.length ≤ mm.length := by have := folR_l2 pv bi es mm; rw [hR] at this; exact this
                        refine wp_region_lit ?_
                        refine st_y ha161 rfl (y_move ha161 rfl) ?_
                        clear ha161 a160; intro a238 ha238
                        refine st_y ha238 rfl (y_move ha238 rfl) ?_
                        clear ha238 a238; intro a239 ha239
                        refine st_y ha239 rfl (y_move ha239 rfl) ?_
                        clear ha239 a239; intro a240 ha240
                        refine st_y ha240 rfl (y_move ha240 rfl) ?_
                        clear ha240 a240; intro a241 ha241
                        have m242 := m237.dat 500 rfl (m237.rd (i := 30) rfl); clear m237
                        refine wpList_plain rfl (fun K hK => ?_)
                        refine e_call ha241 Try.func13 rfl rfl rfl rfl (follow_is _ _ bi bt cf d es _ _ _ _ _ _ pv tx mm _ _ _ _ (l2 := l2) (es' := es2) (last := lst) (by omega) (by omega) (by omega) hmok hH hR (m242.into [(1, 11), (2, 12), (3, 13), (4, 14), (5, 500)] (by decide) rfl)) ?_
                        rintro e w243 ⟨pl243, cl243, pr243, cr243, rfl, hm243⟩
                        have mx243 := m242.back hm243 [(11, 1), (12, 2), (13, 3), (14, 4), (500, 5)] (by decide); clear hm243 m242
                        have m243 : MemOk _ _ [(11, _), (12, _), (13, _), (14, _), (500, _), (5, _), (6, _), (7, _), (21, _), (22, _), (23, _), (24, _), (30, _)] _ := mx243.only [11, 12, 13, 14, 500, 5, 6, 7, 21, 22, 23, 24, 30]; clear mx243
                        refine ⟨_, rfl, fun a244 ha244 => ?_⟩; clear ha241 a241
                        refine hK _ _ ?_; clear hK K
                        refine st_y ha244 rfl (y_move ha244 rfl) ?_
                        clear ha244 a244; intro a245 ha245
                        refine st_y ha245 rfl (y_extract ha245 rfl rfl) ?_
                        clear ha245 a245; intro a246 ha246
                        refine st_y ha246 rfl (y_extract ha246 rfl rfl) ?_
                        clear ha246 a246; intro a247 ha247
                        refine st_y ha247 rfl (y_extract ha247 rfl rfl) ?_
                        clear ha247 a247; intro a248 ha248
                        refine st_y ha248 rfl (y_assign ha248 rfl) ?_
                        clear ha248 a248; intro a249 ha249
                        refine st_y ha249 rfl (y_assign ha249 rfl) ?_
                        clear ha249 a249; intro a250 ha250
                        refine st_y ha250 rfl (y_assign ha250 rfl) ?_
                        clear ha250 a250; intro a251 ha251
                        refine wpList_nil ?_
                        refine hK34 _ _ ?_; clear hK34; try clear K34
                        refine wp_seq_k (fun K35 hK35 => ?_)
                        have ha252 : Has 294 [(2, _), (9, _), (10, _), (11, _), (12, _), (13, _), (14, _), (15, _), (16, _), (18, _), (19, _), (20, _)] a251 := ha251.only [2, 9, 10, 11, 12, 13, 14, 15, 16, 18, 19, 20]; clear ha251
                        refine wp_region_lit ?_
                        refine st_y ha252 rfl (y_move ha252 rfl) ?_
                        clear ha252 a251; intro a253 ha253
                        refine st_y ha253 rfl (y_move ha253 rfl) ?_
                        clear ha253 a253; intro a254 ha254
                        refine st_y ha254 rfl (y_move ha254 rfl) ?_
                        clear ha254 a254; intro a255 ha255
                        refine st_y ha255 rfl (y_move ha255 rfl) ?_
                        clear ha255 a255; intro a256 ha256
                        have m257 := m243.dat 501 rfl (m243.rd (i := 30) rfl); clear m243
                        refine wpList_plain rfl (fun K hK => ?_)
                        refine e_call ha256 Try.func14 rfl rfl rfl rfl (rfollow_is _ _ bi bt cf d es _ _ _ _ _ _ pv tx mm _ _ _ (l2 := l2) (es' := es2) (last := lst) (by omega) (by omega) (by omega) hsm htm trivial hH hR (m257.into [(1, 21), (2, 22), (3, 23), (4, 24), (5, 501)] (by decide) rfl)) ?_
                        rintro e w258 ⟨pl258, cl258, pr258, cr258, rfl, hm258⟩
                        have mx258 := m257.back hm258 [(21, 1), (22, 2), (23, 3), (24, 4), (501, 6)] (by decide); clear hm258 m257
                        have m258 : MemOk _ _ [(21, _), (22, _), (23, _), (24, _), (501, _), (5, _), (6, _), (7, _), (11, _), (12, _), (13, _), (14, _), (30, _), (500, _)] _ := mx258.only [21, 22, 23, 24, 501, 5, 6, 7, 11, 12, 13, 14, 30, 500]; clear mx258
                        refine ⟨_, rfl, fun a259 ha259 => ?_⟩; clear ha256 a256
                        refine hK _ _ ?_; clear hK K
                        refine st_y ha259 rfl (y_move ha259 rfl) ?_
                        clear ha259 a259; intro a260 ha260
                        refine st_y ha260 rfl (y_extract ha260 rfl rfl) ?_
                        clear ha260 a260; intro a261 ha261
                        refine st_y ha261 rfl (y_extract ha261 rfl rfl) ?_
                        clear ha261 a261; intro a262 ha262
                        refine st_y ha262 rfl (y_extract ha262 rfl rfl) ?_
                        clear ha262 a262; intro a263 ha263
                        refine st_y ha263 rfl (y_assign ha263 rfl) ?_
                        clear ha263 a263; intro a264 ha264
                        refine st_y ha264 rfl (y_assign ha264 rfl) ?_
                        clear ha264 a264; intro a265 ha265
                        refine st_y ha265 rfl (y_assign ha265 rfl) ?_
                        clear ha265 a265; intro a266 ha266
                        refine wpList_nil ?_
                        refine hK35 _ _ ?_; clear hK35; try clear K35
                        refine wp_seq_k (fun K36 hK36 => ?_)
                        have ha267 : Has 294 [(2, _), (9, _), (10, _), (11, _), (12, _), (13, _), (14, _), (15, _), (16, _), (18, _), (19, _), (20, _), (21, _), (22, _), (23, _)] a266 := ha266.only [2, 9, 10, 11, 12, 13, 14, 15, 16, 18, 19, 20, 21, 22, 23]; clear ha266
                        refine wp_region_lit ?_
                        refine st_y ha267 rfl (y_move ha267 rfl) ?_
                        clear ha267 a266; intro a268 ha268
                        refine st_y ha268 rfl (y_move ha268 rfl) ?_
                        clear ha268 a268; intro a269 ha269
                        refine st_y ha269 rfl (y_neqB ha269 rfl rfl Try.underlying4) ?_
                        clear ha269 a269; intro a270 ha270
                        refine st_y ha270 rfl (y_move ha270 rfl) ?_
                        clear ha270 a270; intro a271 ha271
                        refine bool_cases ha271 (t := 210) rfl (fun hb272 ha272 => ?_) (fun hb272 ha272 => ?_)
                        · exact absurd hb272 (by simp)
                        clear ha271 hb272
                        refine st_g ha272 rfl rfl rfl rfl (y_move ha272 rfl) ?_
                        clear ha272 a271; intro a273 ha273
                        refine st_g ha273 rfl rfl rfl rfl (y_move ha273 rfl) ?_
                        clear ha273 a273; intro a274 ha274
                        refine st_g ha274 rfl rfl rfl rfl (y_neq ha274 rfl rfl) ?_
                        clear ha274 a274; intro a275 ha275
                        refine st_y ha275 rfl (y_pickF ha275 rfl rfl) ?_
                        clear ha275 a275; intro a276 ha276
                        refine st_y ha276 rfl (y_move ha276 rfl) ?_
                        clear ha276 a276; intro a277 ha277
                        refine bool_cases ha277 (t := 215) rfl (fun hb278 ha278 => ?_) (fun hb278 ha278 => ?_)
                        · exact absurd hb278 (by simp)
                        clear ha277 hb278
                        refine st_g ha278 rfl rfl rfl rfl (y_move ha278 rfl) ?_
                        clear ha278 a277; intro a279 ha279
                        refine st_g ha279 rfl rfl rfl rfl (y_move ha279 rfl) ?_
                        clear ha279 a279; intro a280 ha280
                        refine st_ge ha280 rfl rfl rfl rfl (fun K hK => ?_)
                        refine e_call ha280 Try.func15 rfl rfl rfl rfl (sameS_any l2 _ _ _ _ _ (by omega) ((m258.rd (i := 500) rfl).any) ((m258.rd (i := 501) rfl).any)) ?_
                        rintro e w281 ⟨rfl, hb281⟩
                        have m282 := m258.later hb281
                        clear m258
                        clear hb281
                        refine ⟨_, rfl, fun a283 ha283 => ?_⟩; clear ha280 a280
                        refine hK _ _ ?_; clear hK K
                        refine st_g ha283 rfl rfl rfl rfl (y_not ha283 rfl) ?_
                        clear ha283 a283; intro a284 ha284
                        refine st_y ha284 rfl (y_pickF ha284 rfl rfl) ?_
                        clear ha284 a284; intro a285 ha285
                        refine wpList_nil ?_
                        refine hK36 _ _ ?_; clear hK36; try clear K36
                        refine wp_cond_false (ha285.ev (x := .tmp 220) rfl) ?_
                        refine wp_skip ?_
                        exact hC20 _ _ ⟨bi, bt, cf, d, es2, _, _, _, _, _, _, _, _, _, _, _, _, _, _, _, _, _, (st_fol hst hmg hmml hR), ha285.only [2, 9, 10, 11, 12], m282.only [11, 12, 13, 14, 21, 22, 23, 24, 5, 6, 7]⟩
                      · skip
                        have m286 := m156.freezeS 30 rfl (by simp [cx]); clear m156
                        rw [show (List.map entD mm).length = mm.length from List.length_map _] at ha161 m286
                        have htm : TermsOk mm := fun e he => (hmg e he).1
                        have hmok : EntsOk mm := fun e he => by have := (hmg e he).2.2.1; omega
                        have hn1 : bi ≤ pv := by by_cases h : bi ≤ pv; exact h; exact absurd (fun h2 => absurd h2 h) hH
                        have hn2 : ¬ termL bi bt es pv = tx := by
                          intro h
                          refine hH (fun _ => ⟨?_, h⟩)
                          by_cases h3 : pv ≤ bi + es.length
                          · exact h3
                          · exfalso; rw [term_past (by omega) (by omega)] at h; omega
                        refine wp_region_lit ?_
                        refine st_y ha161 rfl (y_move ha161 rfl) ?_
                        clear ha161 a160; intro a287 ha287
                        refine st_y ha287 rfl (y_move ha287 rfl) ?_
                        clear ha287 a287; intro a288 ha288
                        refine st_y ha288 rfl (y_move ha288 rfl) ?_
                        clear ha288 a288; intro a289 ha289
                        refine st_y ha289 rfl (y_move ha289 rfl) ?_
                        clear ha289 a289; intro a290 ha290
                        have m291 := m286.dat 500 rfl (m286.rd (i := 30) rfl); clear m286
                        refine wpList_plain rfl (fun K hK => ?_)
                        refine e_call ha290 Try.func13 rfl rfl rfl rfl (follow_no _ _ bi bt cf d es _ _ _ _ _ _ pv tx mm _ _ _ _ (by omega) (by omega) hn1 (.inr hn2) (m291.into [(1, 11), (2, 12), (3, 13), (4, 14), (5, 500)] (by decide) rfl)) ?_
                        rintro e w292 ⟨rfl, hm292⟩
                        have mx292 := m291.back hm292 [(11, 1), (12, 2), (13, 3), (14, 4)] (by decide); clear hm292 m291
                        have m292 : MemOk _ _ [(11, _), (12, _), (13, _), (14, _), (5, _), (6, _), (7, _), (21, _), (22, _), (23, _), (24, _), (30, _)] _ := mx292.only [11, 12, 13, 14, 5, 6, 7, 21, 22, 23, 24, 30]; clear mx292
                        refine ⟨_, rfl, fun a293 ha293 => ?_⟩; clear ha290 a290
                        refine hK _ _ ?_; clear hK K
                        refine st_y ha293 rfl (y_move ha293 rfl) ?_
                        clear ha293 a293; intro a294 ha294
                        refine st_y ha294 rfl (y_extract ha294 rfl rfl) ?_
                        clear ha294 a294; intro a295 ha295
                        refine st_y ha295 rfl (y_extract ha295 rfl rfl) ?_
                        clear ha295 a295; intro a296 ha296
                        refine st_y ha296 rfl (y_extract ha296 rfl rfl) ?_
                        clear ha296 a296; intro a297 ha297
                        refine st_y ha297 rfl (y_assign ha297 rfl) ?_
                        clear ha297 a297; intro a298 ha298
                        refine st_y ha298 rfl (y_assign ha298 rfl) ?_
                        clear ha298 a298; intro a299 ha299
                        refine st_y ha299 rfl (y_assign ha299 rfl) ?_
                        clear ha299 a299; intro a300 ha300
                        refine wpList_nil ?_
                        refine hK34 _ _ ?_; clear hK34; try clear K34
                        refine wp_seq_k (fun K37 hK37 => ?_)
                        have ha301 : Has 294 [(2, _), (9, _), (10, _), (11, _), (12, _), (13, _), (14, _), (15, _), (16, _), (18, _), (19, _), (20, _)] a300 := ha300.only [2, 9, 10, 11, 12, 13, 14, 15, 16, 18, 19, 20]; clear ha300
                        refine wp_region_lit ?_
                        refine st_y ha301 rfl (y_move ha301 rfl) ?_
                        clear ha301 a300; intro a302 ha302
                        refine st_y ha302 rfl (y_move ha302 rfl) ?_
                        clear ha302 a302; intro a303 ha303
                        refine st_y ha303 rfl (y_move ha303 rfl) ?_
                        clear ha303 a303; intro a304 ha304
                        refine st_y ha304 rfl (y_move ha304 rfl) ?_
                        clear ha304 a304; intro a305 ha305
                        have m306 := m292.dat 501 rfl (m292.rd (i := 30) rfl); clear m292
                        refine wpList_plain rfl (fun K hK => ?_)
                        refine e_call ha305 Try.func14 rfl rfl rfl rfl (rfollow_no _ _ bi bt cf d es _ _ _ _ _ _ pv tx mm _ _ _ (by omega) (by omega) hn1 hn2 (m306.into [(1, 21), (2, 22), (3, 23), (4, 24), (5, 501)] (by decide) rfl)) ?_
                        rintro e w307 ⟨rfl, hm307⟩
                        have mx307 := m306.back hm307 [(21, 1), (22, 2), (23, 3), (24, 4)] (by decide); clear hm307 m306
                        have m307 : MemOk _ _ [(21, _), (22, _), (23, _), (24, _), (5, _), (6, _), (7, _), (11, _), (12, _), (13, _), (14, _), (30, _)] _ := mx307.only [21, 22, 23, 24, 5, 6, 7, 11, 12, 13, 14, 30]; clear mx307
                        refine ⟨_, rfl, fun a308 ha308 => ?_⟩; clear ha305 a305
                        refine hK _ _ ?_; clear hK K
                        refine st_y ha308 rfl (y_move ha308 rfl) ?_
                        clear ha308 a308; intro a309 ha309
                        refine st_y ha309 rfl (y_extract ha309 rfl rfl) ?_
                        clear ha309 a309; intro a310 ha310
                        refine st_y ha310 rfl (y_extract ha310 rfl rfl) ?_
                        clear ha310 a310; intro a311 ha311
                        refine st_y ha311 rfl (y_extract ha311 rfl rfl) ?_
                        clear ha311 a311; intro a312 ha312
                        refine st_y ha312 rfl (y_assign ha312 rfl) ?_
                        clear ha312 a312; intro a313 ha313
                        refine st_y ha313 rfl (y_assign ha313 rfl) ?_
                        clear ha313 a313; intro a314 ha314
                        refine st_y ha314 rfl (y_assign ha314 rfl) ?_
                        clear ha314 a314; intro a315 ha315
                        refine wpList_nil ?_
                        refine hK37 _ _ ?_; clear hK37; try clear K37
                        refine wp_seq_k (fun K38 hK38 => ?_)
                        have ha316 : Has 294 [(2, _), (9, _), (10, _), (11, _), (12, _), (13, _), (14, _), (15, _), (16, _), (18, _), (19, _), (20, _), (21, _), (22, _), (23, _)] a315 := ha315.only [2, 9, 10, 11, 12, 13, 14, 15, 16, 18, 19, 20, 21, 22, 23]; clear ha315
                        refine wp_region_lit ?_
                        refine st_y ha316 rfl (y_move ha316 rfl) ?_
                        clear ha316 a315; intro a317 ha317
                        refine st_y ha317 rfl (y_move ha317 rfl) ?_
                        clear ha317 a317; intro a318 ha318
                        refine st_y ha318 rfl (y_neqB ha318 rfl rfl Try.underlying4) ?_
                        clear ha318 a318; intro a319 ha319
                        refine st_y ha319 rfl (y_move ha319 rfl) ?_
                        clear ha319 a319; intro a320 ha320
                        refine bool_cases ha320 (t := 210) rfl (fun hb321 ha321 => ?_) (fun hb321 ha321 => ?_)
                        · exact absurd hb321 (by simp)
                        clear ha320 hb321
                        refine st_g ha321 rfl rfl rfl rfl (y_move ha321 rfl) ?_
                        clear ha321 a320; intro a322 ha322
                        refine st_g ha322 rfl rfl rfl rfl (y_move ha322 rfl) ?_
                        clear ha322 a322; intro a323 ha323
                        refine st_g ha323 rfl rfl rfl rfl (y_neq ha323 rfl rfl) ?_
                        clear ha323 a323; intro a324 ha324
                        refine st_y ha324 rfl (y_pickF ha324 rfl rfl) ?_
                        clear ha324 a324; intro a325 ha325
                        refine st_y ha325 rfl (y_move ha325 rfl) ?_
                        clear ha325 a325; intro a326 ha326
                        refine bool_cases ha326 (t := 215) rfl (fun hb327 ha327 => ?_) (fun hb327 ha327 => ?_)
                        · exact absurd hb327 (by simp)
                        clear ha326 hb327
                        refine st_g ha327 rfl rfl rfl rfl (y_move ha327 rfl) ?_
                        clear ha327 a326; intro a328 ha328
                        refine st_g ha328 rfl rfl rfl rfl (y_move ha328 rfl) ?_
                        clear ha328 a328; intro a329 ha329
                        refine st_ge ha329 rfl rfl rfl rfl (fun K hK => ?_)
                        refine e_call ha329 Try.func15 rfl rfl rfl rfl (sameS_any [] none none 0 0 _ (by decide) (.l0 none 0 4) (.l0 none 0 4)) ?_
                        rintro e w330 ⟨rfl, hb330⟩
                        have m331 := m307.later hb330
                        clear m307
                        clear hb330
                        refine ⟨_, rfl, fun a332 ha332 => ?_⟩; clear ha329 a329
                        refine hK _ _ ?_; clear hK K
                        refine st_g ha332 rfl rfl rfl rfl (y_not ha332 rfl) ?_
                        clear ha332 a332; intro a333 ha333
                        refine st_y ha333 rfl (y_pickF ha333 rfl rfl) ?_
                        clear ha333 a333; intro a334 ha334
                        refine wpList_nil ?_
                        refine hK38 _ _ ?_; clear hK38; try clear K38
                        refine wp_cond_false (ha334.ev (x := .tmp 220) rfl) ?_
                        refine wp_skip ?_
                        exact hC20 _ _ ⟨bi, bt, cf, d, es, _, _, _, _, _, _, _, _, _, _, _, _, _, _, _, _, _, (hst.up (by omega)), ha334.only [2, 9, 10, 11, 12], m331.only [11, 12, 13, 14, 21, 22, 23, 24, 5, 6, 7]⟩
                · skip
                  clear ha106
                  try simp only [decide_eq_true_eq, decide_eq_false_iff_not, Bool.not_eq_true, Bool.not_eq_false, Bool.not_eq_eq_eq_not, Bool.not_true, Bool.not_false, Bool.not_not, Int.not_lt, Int.not_le, ne_eq, Decidable.not_not] at hb107
                  refine wp_cond_false (ha107.ev (x := .tmp 117) rfl) ?_
                  refine wp_seq_k (fun K39 hK39 => ?_)
                  have hC39 : ∀ (a : Act) (w : World), (∃ (bb : Bool), Has 294 [(2, .slice p5 acts.length c5), (9, .pointer (some ⟨BB, 0, none⟩)), (10, .pointer (some ⟨CC, 0, none⟩)), (11, .int .i64 (i : Int)), (12, .pointer (some ⟨D6, 0, none⟩)), (92, .int .u8 (xw.tmod 8)), (221, .bool bb)] a ∧ MemOk (cx (fun _ => True) w0) w0 [(11, .box BB 56 [.int .i64 bi, .int .i64 bt, .slice pc1 cf.length cc1, .slice pd1 d.length cd1, .slice pl1 (es.map entD).length cl1]), (12, .seg (.slice pl1 (es.map entD).length cl1) 32 4 (es.map entD)), (13, .dat (.slice pc1 cf.length cc1) (.ns .i64 cf)), (14, .dat (.slice pd1 d.length cd1) (.ns .u8 d)), (21, .box CC 41 [.int .i64 bi, .int .i64 bt, .slice pc2 cf.length cc2, .slice pd2 d.length cd2, .slice pl2 (es.map entD).length cl2]), (22, .seg (.slice pl2 (es.map entD).length cl2) 32 4 (es.map entD)), (23, .dat (.slice pc2 cf.length cc2) (.ns .i64 cf)), (24, .dat (.slice pd2 d.length cd2) (.ns .u8 d)), (5, .dat (.slice p5 acts.length c5) (.l 5 (acts.map lactD))), (6, .box D6 39 [.int .u8 xw, .int .u8 xa, .int .u8 xb, .int .u8 xc, .slice pf xl.length cf6]), (7, .dat (.slice pf xl.length cf6) (.ns .u8 xl))] w) → K39 a w := by
                    clear ha107 m106
                    rintro a335 w335 ⟨bb, ha335, m335⟩
                    refine hK39 _ _ ?_; clear hK39; try clear K39
                    refine bool_cases ha335 (t := 221) rfl (fun hb336 ha336 => ?_) (fun hb336 ha336 => ?_)
                    · skip
                      clear ha335
                      try simp only [decide_eq_true_eq, decide_eq_false_iff_not, Bool.not_eq_true, Bool.not_eq_false, Bool.not_eq_eq_eq_not, Bool.not_true, Bool.not_false, Bool.not_not, Int.not_lt, Int.not_le, ne_eq, Decidable.not_not] at hb336
                      refine wp_cond_true (ha336.ev (x := .tmp 221) rfl) ?_
                      refine wp_seq_k (fun K40 hK40 => ?_)
                      refine wp_region_lit ?_
                      refine st_y ha336 rfl (y_fieldAddr ha336 (off := 4) rfl Try.underlying39 rfl (s := 0) (by kernel_rfl) rfl) ?_
                      clear ha336 a335; intro a337 ha337
                      refine st_y ha337 rfl (y_loadB1 ha337 m335 (i := 6) rfl rfl rfl Try.underlying23 rfl) ?_
                      clear ha337 a337; intro a338 ha338
                      refine wpList_plain rfl (fun K hK => ?_)
                      refine e_app0N ha338 m335 500 rfl rfl (m335.nums (i := 7) rfl) Try.underlying23 inf5lp (by decide) (by omega) rfl ?_
                      clear ha338 a338 m335; intro p339 c339 a340 w340 ha340 m340 
                      refine hK _ _ ?_; clear hK K
                      refine st_y ha340 rfl (y_assign ha340 rfl) ?_
                      clear ha340 a340; intro a341 ha341
                      refine wpList_nil ?_
                      refine hK40 _ _ ?_; clear hK40; try clear K40
                      refine wp_seq_k (fun K41 hK41 => ?_)
                      refine wp_region_lit ?_
                      refine st_y ha341 rfl (y_assign ha341 rfl) ?_
                      clear ha341 a341; intro a342 ha342
                      refine wpList_nil ?_
                      refine hK41 _ _ ?_; clear hK41; try clear K41
                      refine wp_seq_k (fun K42 hK42 => ?_)
                      have hC42 : ∀ (a : Act) (w : World), (∃ (kd : Int) (dd : List Int) (pg : Option Addr) (cg : Nat), DG kd dd ∧ Has 294 [(2, .slice p5 acts.length c5), (9, .pointer (some ⟨BB, 0, none⟩)), (10, .pointer (some ⟨CC, 0, none⟩)), (11, .int .i64 (i : Int)), (12, .pointer (some ⟨D6, 0, none⟩)), (24, .slice pg dd.length cg), (25, .int .i64 kd)] a ∧ MemOk (cx (fun _ => True) w0) w0 [(11, .box BB 56 [.int .i64 bi, .int .i64 bt, .slice pc1 cf.length cc1, .slice pd1 d.length cd1, .slice pl1 (es.map entD).length cl1]), (12, .seg (.slice pl1 (es.map entD).length cl1) 32 4 (es.map entD)), (13, .dat (.slice pc1 cf.length cc1) (.ns .i64 cf)), (14, .dat (.slice pd1 d.length cd1) (.ns .u8 d)), (21, .box CC 41 [.int .i64 bi, .int .i64 bt, .slice pc2 cf.length cc2, .slice pd2 d.length cd2, .slice pl2 (es.map entD).length cl2]), (22, .seg (.slice pl2 (es.map entD).length cl2) 32 4 (es.map entD)), (23, .dat (.slice pc2 cf.length cc2) (.ns .i64 cf)), (24, .dat (.slice pd2 d.length cd2) (.ns .u8 d)), (5, .dat (.slice p5 acts.length c5) (.l 5 (acts.map lactD))), (6, .box D6 39 [.int .u8 xw, .int .u8 xa, .int .u8 xb, .int .u8 xc, .slice pf xl.length cf6]), (7, .dat (.slice pf xl.length cf6) (.ns .u8 xl)), (8, .dat (.slice pg dd.length cg) (.ns .u8 dd))] w) → K42 a w := by
                        clear ha342 m340
                        rintro a343 w343 ⟨kd, dd, pg, cg, hddg, ha343, m343⟩
                        refine hK42 _ _ ?_; clear hK42; try clear K42
                        refine wp_seq_k (fun K43 hK43 => ?_)
                        obtain ⟨ta, hta9⟩ : ∃ x : Int, xa % 9 = x := ⟨_, rfl⟩
                        have hta : 0 ≤ ta ∧ ta ≤ 255 := by omega
                        have hddl := hddg.1
                        have m344 : MemOk _ _ [(5, _), (6, _), (7, _), (8, _), (11, _), (12, _), (13, _), (14, _), (21, _), (22, _), (23, _), (24, _)] _ := m343.only [5, 6, 7, 8, 11, 12, 13, 14, 21, 22, 23, 24]; clear m343
                        refine region_m 18 (B := [(6, _)]) (m344.to ⟨.inl rfl, trivial⟩) m344 (by kernel_rfl) (fun w345 mB345 m345 => ?_); clear m344 mB345
                        refine d_y 0 ha343 rfl rfl (fun _ => (m345.to ⟨.inl rfl, trivial⟩)) (by kernel_rfl) (by kernel_rfl) (by kernel_rfl) (by rfl) (fun _ _ _ h => h) (fun W => y_move ha343 rfl) ?_
                        clear ha343 a343; intro a346 ha346
                        refine d_y 1 ha346 rfl rfl (fun _ => (m345.to ⟨.inl rfl, trivial⟩)) (by kernel_rfl) (by kernel_rfl) (by kernel_rfl) (by rfl) (fun _ _ _ h => h) (fun W => y_fieldAddr ha346 (off := 1) rfl Try.underlying39 rfl (s := 0) (by kernel_rfl) rfl) ?_
                        clear ha346 a346; intro a347 ha347
                        refine d_h 2 ha347 rfl rfl (m345.to ⟨.inl rfl, trivial⟩) (by kernel_rfl) (by kernel_rfl) (by kernel_rfl) (by kernel_rfl) (by kernel_rfl) (fun _ _ _ h => h) (fun W hW => y_loadB1 ha347 hW (i := 6) rfl rfl rfl Try.underlying5 rfl) ?_
                        clear ha347 a347; intro a348 ha348
                        refine d_y 3 ha348 rfl rfl (fun _ => (m345.to ⟨.inl rfl, trivial⟩)) (by kernel_rfl) (by kernel_rfl) (by kernel_rfl) (by rfl) (fun _ _ _ h => h) (fun W => y_rem ha348 rfl rfl (by decide) (r := ta) (by rw [← hta9]; exact Int.tmod_eq_emod_of_nonneg (by omega))) ?_
                        clear ha348 a348; intro a349 ha349
                        refine d_y 4 ha349 rfl rfl (fun _ => (m345.to ⟨.inl rfl, trivial⟩)) (by kernel_rfl) (by kernel_rfl) (by kernel_rfl) (by rfl) (fun _ _ _ h => h) (fun W => y_conv ha349 rfl Try.underlying5 Try.underlying3 (r := ta) (IntWalk.i64_in _ (by omega))) ?_
                        clear ha349 a349; intro a350 ha350
                        refine d_y 5 ha350 rfl rfl (fun _ => (m345.to ⟨.inl rfl, trivial⟩)) (by kernel_rfl) (by kernel_rfl) (by kernel_rfl) (by rfl) (fun _ _ _ h => h) (fun W => y_move ha350 rfl) ?_
                        clear ha350 a350; intro a351 ha351
                        refine d_y 6 ha351 rfl rfl (fun _ => (m345.to ⟨.inl rfl, trivial⟩)) (by kernel_rfl) (by kernel_rfl) (by kernel_rfl) (by rfl) (fun _ _ _ h => h) (fun W => y_move ha351 rfl) ?_
                        clear ha351 a351; intro a352 ha352
                        refine d_y 8 ha352 rfl rfl (fun _ => (m345.to ⟨.inl rfl, trivial⟩)) (by kernel_rfl) (by kernel_rfl) (by kernel_rfl) (by rfl) (fun _ _ _ h => h) (fun W => y_move ha352 rfl) ?_
                        clear ha352 a352; intro a353 ha353
                        refine d_y 9 ha353 rfl rfl (fun _ => (m345.to ⟨.inl rfl, trivial⟩)) (by kernel_rfl) (by kernel_rfl) (by kernel_rfl) (by rfl) (fun _ _ _ h => h) (fun W => y_fieldAddr ha353 (off := 1) rfl Try.underlying39 rfl (s := 0) (by kernel_rfl) rfl) ?_
                        clear ha353 a353; intro a354 ha354
                        refine d_h 10 ha354 rfl rfl (m345.to ⟨.inl rfl, trivial⟩) (by kernel_rfl) (by kernel_rfl) (by kernel_rfl) (by kernel_rfl) (by kernel_rfl) (fun _ _ _ h => h) (fun W hW => y_loadB1 ha354 hW (i := 6) rfl rfl rfl Try.underlying5 rfl) ?_
                        clear ha354 a354; intro a355 ha355
                        refine d_y 11 ha355 rfl rfl (fun _ => (m345.to ⟨.inl rfl, trivial⟩)) (by kernel_rfl) (by kernel_rfl) (by kernel_rfl) (by rfl) (fun _ _ _ h => h) (fun W => y_rem ha355 rfl rfl (by decide) (r := ta) (by rw [← hta9]; exact Int.tmod_eq_emod_of_nonneg (by omega))) ?_
                        clear ha355 a355; intro a356 ha356
                        refine d_y 12 ha356 rfl rfl (fun _ => (m345.to ⟨.inl rfl, trivial⟩)) (by kernel_rfl) (by kernel_rfl) (by kernel_rfl) (by rfl) (fun _ _ _ h => h) (fun W => y_conv ha356 rfl Try.underlying5 Try.underlying3 (r := ta) (IntWalk.i64_in _ (by omega))) ?_
                        clear ha356 a356; intro a357 ha357
                        refine d_y 13 ha357 rfl rfl (fun _ => (m345.to ⟨.inl rfl, trivial⟩)) (by kernel_rfl) (by kernel_rfl) (by kernel_rfl) (by rfl) (fun _ _ _ h => h) (fun W => y_move ha357 rfl) ?_
                        clear ha357 a357; intro a358 ha358
                        refine d_y 14 ha358 rfl rfl (fun _ => (m345.to ⟨.inl rfl, trivial⟩)) (by kernel_rfl) (by kernel_rfl) (by kernel_rfl) (by rfl) (fun _ _ _ h => h) (fun W => y_move ha358 rfl) ?_
                        clear ha358 a358; intro a359 ha359
                        have m360 := m345.dat 600 rfl (m345.rd (i := 8) rfl); clear m345
                        refine stepE_only 7 rfl (by kernel_rfl) rfl (fun K hK => ?_)
                        refine e_call ha359 Try.func17 rfl rfl rfl rfl (add_fr _ _ bi bt cf d es _ _ _ _ _ _ ta kd dd _ _ _ (by omega) (by omega) (by omega) (m360.into [(1, 11), (2, 12), (3, 13), (4, 14), (5, 600)] (by decide) rfl)) ?_
                        rintro e w361 ⟨pl361, cl361, pr361, cr361, rfl, hm361⟩
                        have mx361 := m360.back hm361 [(11, 1), (12, 2), (13, 3), (14, 4), (600, 5)] (by decide); clear hm361 m360
                        have m361 : MemOk _ _ [(11, _), (12, _), (13, _), (14, _), (600, _), (5, _), (6, _), (7, _), (8, _), (21, _), (22, _), (23, _), (24, _)] _ := mx361.only [11, 12, 13, 14, 600, 5, 6, 7, 8, 21, 22, 23, 24]; clear mx361
                        refine ⟨_, rfl, fun a362 ha362 => ?_⟩; clear ha359 a359
                        refine hK _ _ (m361.to ⟨.inl rfl, trivial⟩) ?_; clear hK K
                        have m363 := m361.dat 601 rfl (m361.rd (i := 8) rfl); clear m361
                        refine stepE_only 15 rfl (by kernel_rfl) rfl (fun K hK => ?_)
                        refine e_call ha362 Try.func18 rfl rfl rfl rfl (radd_fr _ _ bi bt cf d es _ _ _ _ _ _ ta kd dd _ _ _ (by omega) (by omega) (by omega) (m363.into [(1, 21), (2, 22), (3, 23), (4, 24), (5, 601)] (by decide) rfl)) ?_
                        rintro e w364 ⟨pl364, cl364, pr364, cr364, rfl, hm364⟩
                        have mx364 := m363.back hm364 [(21, 1), (22, 2), (23, 3), (24, 4), (601, 5)] (by decide); clear hm364 m363
                        have m364 : MemOk _ _ [(21, _), (22, _), (23, _), (24, _), (601, _), (5, _), (6, _), (7, _), (8, _), (11, _), (12, _), (13, _), (14, _), (600, _)] _ := mx364.only [21, 22, 23, 24, 601, 5, 6, 7, 8, 11, 12, 13, 14, 600]; clear mx364
                        refine ⟨_, rfl, fun a365 ha365 => ?_⟩; clear ha362 a362
                        refine hK _ _ (m364.to ⟨.inl rfl, trivial⟩) ?_; clear hK K
                        refine stepE_only 16 rfl (by kernel_rfl) rfl (fun K hK => ?_)
                        refine e_call ha365 Try.func16 rfl rfl rfl rfl (sameE_any _ _ _ dd _ _ _ _ _ ((m364.rd (i := 600) rfl).any) ((m364.rd (i := 601) rfl).any)) ?_
                        rintro e w366 ⟨rfl, hb366⟩
                        have m367 := m364.later hb366
                        clear m364
                        clear hb366
                        refine ⟨_, rfl, fun a368 ha368 => ?_⟩; clear ha365 a365
                        refine hK _ _ (m367.to ⟨.inl rfl, trivial⟩) ?_; clear hK K
                        refine d_y 17 ha368 rfl rfl (fun _ => (m367.to ⟨.inl rfl, trivial⟩)) (by kernel_rfl) (by kernel_rfl) (by kernel_rfl) (by rfl) (fun _ _ _ h => h) (fun W => y_not ha368 rfl) ?_
                        clear ha368 a368; intro a369 ha369
                        refine wpAnyE_done (by kernel_rfl) ?_ _
                        refine hK43 _ _ ?_; clear hK43; try clear K43
                        refine wp_cond_false (ha369.ev (x := .tmp 255) rfl) ?_
                        refine wp_skip ?_
                        exact hC20 _ _ ⟨bi, bt, cf, d, es ++ [(bi + es.length + 1, ta, kd, dd)], _, _, _, _, _, _, _, _, _, _, _, _, _, _, _, _, _, (st_add hst hta hddg), ha369.only [2, 9, 10, 11, 12], m367.only [11, 12, 13, 14, 21, 22, 23, 24, 5, 6, 7]⟩
                      refine wp_seq_k (fun K44 hK44 => ?_)
                      refine wp_region_lit ?_
                      refine st_y ha342 rfl (y_fieldAddr ha342 (off := 2) rfl Try.underlying39 rfl (s := 0) (by kernel_rfl) rfl) ?_
                      clear ha342 a342; intro a370 ha370
                      refine st_y ha370 rfl (y_loadB1 ha370 m340 (i := 6) rfl rfl rfl Try.underlying5 rfl) ?_
                      clear ha370 a370; intro a371 ha371
                      refine st_y ha371 rfl (y_rem ha371 rfl rfl (by decide) (Int.tmod_eq_emod_of_nonneg (by omega))) ?_
                      clear ha371 a371; intro a372 ha372
                      refine st_y ha372 rfl (y_eql ha372 rfl rfl) ?_
                      clear ha372 a372; intro a373 ha373
                      refine wpList_nil ?_
                      refine hK44 _ _ ?_; clear hK44; try clear K44
                      refine bool_cases ha373 (t := 230) rfl (fun hb374 ha374 => ?_) (fun hb374 ha374 => ?_)
                      · skip
                        clear ha373
                        try simp only [decide_eq_true_eq, decide_eq_false_iff_not, Bool.not_eq_true, Bool.not_eq_false, Bool.not_eq_eq_eq_not, Bool.not_true, Bool.not_false, Bool.not_not, Int.not_lt, Int.not_le, ne_eq, Decidable.not_not] at hb374
                        refine wp_cond_true (ha374.ev (x := .tmp 230) rfl) ?_
                        have ha375 : Has 294 [(2, _), (9, _), (10, _), (11, _), (12, _), (92, _), (221, _), (24, _), (25, _), (230, _)] a373 := ha374.only [2, 9, 10, 11, 12, 92, 221, 24, 25, 230]; clear ha374
                        have m376 : MemOk _ _ [(5, _), (6, _), (7, _), (11, _), (12, _), (13, _), (14, _), (21, _), (22, _), (23, _), (24, _), (500, _)] _ := m340.only [5, 6, 7, 11, 12, 13, 14, 21, 22, 23, 24, 500]; clear m340
                        refine region_m 9 (B := [(6, _)]) (m376.to ⟨.inl rfl, trivial⟩) m376 (by kernel_rfl) (fun w377 mB377 m377 => ?_); clear m376 mB377
                        refine d_y 0 ha375 rfl rfl (fun _ => (m377.to ⟨.inl rfl, trivial⟩)) (by kernel_rfl) (by kernel_rfl) (by kernel_rfl) (by rfl) (fun _ _ _ h => h) (fun W => y_fieldAddr ha375 (off := 1) rfl Try.underlying39 rfl (s := 0) (by kernel_rfl) rfl) ?_
                        clear ha375 a373; intro a378 ha378
                        refine d_h 1 ha378 rfl rfl (m377.to ⟨.inl rfl, trivial⟩) (by kernel_rfl) (by kernel_rfl) (by kernel_rfl) (by kernel_rfl) (by kernel_rfl) (fun _ _ _ h => h) (fun W hW => y_loadB1 ha378 hW (i := 6) rfl rfl rfl Try.underlying5 rfl) ?_
                        clear ha378 a378; intro a379 ha379
                        refine d_y 2 ha379 rfl rfl (fun _ => (m377.to ⟨.inl rfl, trivial⟩)) (by kernel_rfl) (by kernel_rfl) (by kernel_rfl) (by rfl) (fun _ _ _ h => h) (fun W => y_rem ha379 rfl rfl (by decide) (Int.tmod_eq_emod_of_nonneg (by omega))) ?_
                        clear ha379 a379; intro a380 ha380
                        refine d_y 3 ha380 rfl rfl (fun _ => (m377.to ⟨.inl rfl, trivial⟩)) (by kernel_rfl) (by kernel_rfl) (by kernel_rfl) (by rfl) (fun _ _ _ h => h) (fun W => y_fieldAddr ha380 (off := 3) rfl Try.underlying39 rfl (s := 0) (by kernel_rfl) rfl) ?_
                        clear ha380 a380; intro a381 ha381
                        refine d_h 4 ha381 rfl rfl (m377.to ⟨.inl rfl, trivial⟩) (by kernel_rfl) (by kernel_rfl) (by kernel_rfl) (by kernel_rfl) (by kernel_rfl) (fun _ _ _ h => h) (fun W hW => y_loadB1 ha381 hW (i := 6) rfl rfl rfl Try.underlying5 rfl) ?_
                        clear ha381 a381; intro a382 ha382
                        refine d_y 5 ha382 rfl rfl (fun _ => (m377.to ⟨.inl rfl, trivial⟩)) (by kernel_rfl) (by kernel_rfl) (by kernel_rfl) (by rfl) (fun _ _ _ h => h) (fun W => y_rem ha382 rfl rfl (by decide) (Int.tmod_eq_emod_of_nonneg (by omega))) ?_
                        clear ha382 a382; intro a383 ha383
                        refine d_y 7 ha383 rfl rfl (fun _ => (m377.to ⟨.inl rfl, trivial⟩)) (by kernel_rfl) (by kernel_rfl) (by kernel_rfl) (by rfl) (fun _ _ _ h => h) (fun W => y_assign ha383 rfl) ?_
                        clear ha383 a383; intro a384 ha384
                        refine stepE_only 6 rfl (by kernel_rfl) rfl (fun K hK => ?_)
                        refine e_litN ha384 m377 501 (k := .u8) rfl rfl Try.underlying23 inf5lp rfl rfl rfl rfl ?_
                        clear ha384 a384 m377; intro g385 a386 w386 ha386 m386 
                        refine hK _ _ (m386.to ⟨.inl rfl, trivial⟩) ?_; clear hK K
                        refine d_y 8 ha386 rfl rfl (fun _ => (m386.to ⟨.inl rfl, trivial⟩)) (by kernel_rfl) (by kernel_rfl) (by kernel_rfl) (by rfl) (fun _ _ _ h => h) (fun W => y_assign ha386 rfl) ?_
                        clear ha386 a386; intro a387 ha387
                        refine wpAnyE_done (by kernel_rfl) ?_ _
                        have m388 := m386.freezeN 501 rfl; clear m386
                        exact hC42 _ _ ⟨2, [xa % 7, xc % 2], _, _, (eg_conf (by omega) (by omega)), ha387.only [2, 9, 10, 11, 12, 24, 25], m388.ren [(11, 11), (12, 12), (13, 13), (14, 14), (21, 21), (22, 22), (23, 23), (24, 24), (5, 5), (6, 6), (7, 7), (8, 501)] (by decide)⟩
                      · skip
                        clear ha373
                        try simp only [decide_eq_true_eq, decide_eq_false_iff_not, Bool.not_eq_true, Bool.not_eq_false, Bool.not_eq_eq_eq_not, Bool.not_true, Bool.not_false, Bool.not_not, Int.not_lt, Int.not_le, ne_eq, Decidable.not_not] at hb374
                        refine wp_cond_false (ha374.ev (x := .tmp 230) rfl) ?_
                        refine wp_skip ?_
                        have m389 := m340.freezeN 500 rfl; clear m340
                        exact hC42 _ _ ⟨1, xl, _, _, (eg_cmd hxlb (by omega)), ha374.only [2, 9, 10, 11, 12, 24, 25], m389.ren [(11, 11), (12, 12), (13, 13), (14, 14), (21, 21), (22, 22), (23, 23), (24, 24), (5, 5), (6, 6), (7, 7), (8, 500)] (by decide)⟩
                    · skip
                      clear ha335
                      try simp only [decide_eq_true_eq, decide_eq_false_iff_not, Bool.not_eq_true, Bool.not_eq_false, Bool.not_eq_eq_eq_not, Bool.not_true, Bool.not_false, Bool.not_not, Int.not_lt, Int.not_le, ne_eq, Decidable.not_not] at hb336
                      refine wp_cond_false (ha336.ev (x := .tmp 221) rfl) ?_
                      refine wp_seq_k (fun K45 hK45 => ?_)
                      refine wp_region_lit ?_
                      refine st_y ha336 rfl (y_eql ha336 rfl rfl) ?_
                      clear ha336 a335; intro a390 ha390
                      refine st_y ha390 rfl (y_assign ha390 rfl) ?_
                      clear ha390 a390; intro a391 ha391
                      refine wpList_nil ?_
                      refine hK45 _ _ ?_; clear hK45; try clear K45
                      refine bool_cases ha391 (t := 256) rfl (fun hb392 ha392 => ?_) (fun hb392 ha392 => ?_)
                      · skip
                        clear ha391
                        try simp only [decide_eq_true_eq, decide_eq_false_iff_not, Bool.not_eq_true, Bool.not_eq_false, Bool.not_eq_eq_eq_not, Bool.not_true, Bool.not_false, Bool.not_not, Int.not_lt, Int.not_le, ne_eq, Decidable.not_not] at hb392
                        refine wp_cond_true (ha392.ev (x := .tmp 256) rfl) ?_
                        refine wp_seq_k (fun K46 hK46 => ?_)
                        obtain ⟨att, hat0⟩ : ∃ x : Int, bi - 1 + xa % ((es.length + 3 : Nat) : Int) = x := ⟨_, rfl⟩
                        have hatb : bi - 1 ≤ att ∧ att ≤ bi + es.length + 1 := by have := Int.emod_lt_of_pos xa (show (0 : Int) < ((es.length + 3 : Nat) : Int) by omega); have := Int.emod_nonneg xa (show ((es.length + 3 : Nat) : Int) ≠ 0 by omega); omega
                        have m393 : MemOk _ _ [(5, _), (6, _), (7, _), (11, _), (12, _), (13, _), (14, _), (21, _), (22, _), (23, _), (24, _)] _ := m335.only [5, 6, 7, 11, 12, 13, 14, 21, 22, 23, 24]; clear m335
                        refine region_m 18 (B := [(21, _), (6, _)]) (m393.to ⟨.inl rfl, .inl rfl, trivial⟩) m393 (by kernel_rfl) (fun w394 mB394 m394 => ?_); clear m393 mB394
                        refine d_y 0 ha392 rfl rfl (fun _ => (m394.to ⟨.inl rfl, .inl rfl, trivial⟩)) (by kernel_rfl) (by kernel_rfl) (by kernel_rfl) (by rfl) (fun _ _ _ h => h) (fun W => y_move ha392 rfl) ?_
                        clear ha392 a391; intro a395 ha395
                        refine d_y 1 ha395 rfl rfl (fun _ => (m394.to ⟨.inl rfl, .inl rfl, trivial⟩)) (by kernel_rfl) (by kernel_rfl) (by kernel_rfl) (by rfl) (fun _ _ _ h => h) (fun W => y_nilCheck ha395 rfl) ?_
                        clear ha395 a395; intro a396 ha396
                        refine d_y 2 ha396 rfl rfl (fun _ => (m394.to ⟨.inl rfl, .inl rfl, trivial⟩)) (by kernel_rfl) (by kernel_rfl) (by kernel_rfl) (by rfl) (fun _ _ _ h => h) (fun W => y_fieldAddr ha396 (off := 0) rfl Try.underlying41 rfl (s := 3) (by kernel_rfl) rfl) ?_
                        clear ha396 a396; intro a397 ha397
                        refine d_y 3 ha397 rfl rfl (fun _ => (m394.to ⟨.inl rfl, .inl rfl, trivial⟩)) (by kernel_rfl) (by kernel_rfl) (by kernel_rfl) (by rfl) (fun _ _ _ h => h) (fun W => y_fieldAddr ha397 (off := 0) rfl Try.underlying28 rfl (s := 0) (by kernel_rfl) rfl) ?_
                        clear ha397 a397; intro a398 ha398
                        refine d_h 4 ha398 rfl rfl (m394.to ⟨.inl rfl, .inl rfl, trivial⟩) (by kernel_rfl) (by kernel_rfl) (by kernel_rfl) (by kernel_rfl) (by kernel_rfl) (fun _ _ _ h => h) (fun W hW => y_loadB1 ha398 hW (i := 21) rfl rfl rfl Try.underlying3 rfl) ?_
                        clear ha398 a398; intro a399 ha399
                        refine d_y 5 ha399 rfl rfl (fun _ => (m394.to ⟨.inl rfl, .inl rfl, trivial⟩)) (by kernel_rfl) (by kernel_rfl) (by kernel_rfl) (by rfl) (fun _ _ _ h => h) (fun W => y_sub ha399 rfl rfl (r := bi - 1) (IntWalk.i64_in _ (by omega))) ?_
                        clear ha399 a399; intro a400 ha400
                        refine d_y 6 ha400 rfl rfl (fun _ => (m394.to ⟨.inl rfl, .inl rfl, trivial⟩)) (by kernel_rfl) (by kernel_rfl) (by kernel_rfl) (by rfl) (fun _ _ _ h => h) (fun W => y_fieldAddr ha400 (off := 1) rfl Try.underlying39 rfl (s := 0) (by kernel_rfl) rfl) ?_
                        clear ha400 a400; intro a401 ha401
                        refine d_h 7 ha401 rfl rfl (m394.to ⟨.inl rfl, .inl rfl, trivial⟩) (by kernel_rfl) (by kernel_rfl) (by kernel_rfl) (by kernel_rfl) (by kernel_rfl) (fun _ _ _ h => h) (fun W hW => y_loadB1 ha401 hW (i := 6) rfl rfl rfl Try.underlying5 rfl) ?_
                        clear ha401 a401; intro a402 ha402
                        refine d_y 8 ha402 rfl rfl (fun _ => (m394.to ⟨.inl rfl, .inl rfl, trivial⟩)) (by kernel_rfl) (by kernel_rfl) (by kernel_rfl) (by rfl) (fun _ _ _ h => h) (fun W => y_conv ha402 rfl Try.underlying5 Try.underlying3 (r := xa) (IntWalk.i64_in _ (by omega))) ?_
                        clear ha402 a402; intro a403 ha403
                        refine d_y 9 ha403 rfl rfl (fun _ => (m394.to ⟨.inl rfl, .inl rfl, trivial⟩)) (by kernel_rfl) (by kernel_rfl) (by kernel_rfl) (by rfl) (fun _ _ _ h => h) (fun W => y_move ha403 rfl) ?_
                        clear ha403 a403; intro a404 ha404
                        refine d_y 10 ha404 rfl rfl (fun _ => (m394.to ⟨.inl rfl, .inl rfl, trivial⟩)) (by kernel_rfl) (by kernel_rfl) (by kernel_rfl) (by rfl) (fun _ _ _ h => h) (fun W => y_nilCheck ha404 rfl) ?_
                        clear ha404 a404; intro a405 ha405
                        refine d_y 11 ha405 rfl rfl (fun _ => (m394.to ⟨.inl rfl, .inl rfl, trivial⟩)) (by kernel_rfl) (by kernel_rfl) (by kernel_rfl) (by rfl) (fun _ _ _ h => h) (fun W => y_fieldAddr ha405 (off := 4) rfl Try.underlying41 rfl (s := 0) (by kernel_rfl) rfl) ?_
                        clear ha405 a405; intro a406 ha406
                        refine d_h 12 ha406 rfl rfl (m394.to ⟨.inl rfl, .inl rfl, trivial⟩) (by kernel_rfl) (by kernel_rfl) (by kernel_rfl) (by kernel_rfl) (by kernel_rfl) (fun _ _ _ h => h) (fun W hW => y_loadB1 ha406 hW (i := 21) rfl rfl rfl Try.underlying29 rfl) ?_
                        clear ha406 a406; intro a407 ha407
                        refine d_y 13 ha407 rfl rfl (fun _ => (m394.to ⟨.inl rfl, .inl rfl, trivial⟩)) (by kernel_rfl) (by kernel_rfl) (by kernel_rfl) (by rfl) (fun _ _ _ h => h) (fun W => y_len ha407 rfl Try.underlying29) ?_
                        clear ha407 a407; intro a408 ha408
                        refine d_y 14 ha408 rfl rfl (fun _ => (m394.to ⟨.inl rfl, .inl rfl, trivial⟩)) (by kernel_rfl) (by kernel_rfl) (by kernel_rfl) (by rfl) (fun _ _ _ h => h) (fun W => y_add ha408 rfl rfl (r := ((es.length + 3 : Nat) : Int)) (by rw [List.length_map, IntWalk.i64_in _ (by omega)]; omega)) ?_
                        clear ha408 a408; intro a409 ha409
                        refine d_y 15 ha409 rfl rfl (fun _ => (m394.to ⟨.inl rfl, .inl rfl, trivial⟩)) (by kernel_rfl) (by kernel_rfl) (by kernel_rfl) (by rfl) (fun _ _ _ h => h) (fun W => y_rem ha409 rfl rfl (by omega) (Int.tmod_eq_emod_of_nonneg (by omega))) ?_
                        clear ha409 a409; intro a410 ha410
                        refine d_y 16 ha410 rfl rfl (fun _ => (m394.to ⟨.inl rfl, .inl rfl, trivial⟩)) (by kernel_rfl) (by kernel_rfl) (by kernel_rfl) (by rfl) (fun _ _ _ h => h) (fun W => y_add ha410 rfl rfl (r := att) (by rw [hat0]; exact IntWalk.i64_in _ (by omega))) ?_
                        clear ha410 a410; intro a411 ha411
                        refine d_y 17 ha411 rfl rfl (fun _ => (m394.to ⟨.inl rfl, .inl rfl, trivial⟩)) (by kernel_rfl) (by kernel_rfl) (by kernel_rfl) (by rfl) (fun _ _ _ h => h) (fun W => y_assign ha411 rfl) ?_
                        clear ha411 a411; intro a412 ha412
                        refine wpAnyE_done (by kernel_rfl) ?_ _
                        refine hK46 _ _ ?_; clear hK46; try clear K46
                        refine wp_seq_k (fun K47 hK47 => ?_)
                        by_cases hH : inB bi es att
                        · skip
                          obtain ⟨kk, hatt, hkl, -, hek0⟩ := inB_at hH
                          obtain ⟨⟨ei, et, ek, ed⟩, hek⟩ : ∃ e, es[kk]? = some e := ⟨_, hek0⟩
                          have ha413 : Has 294 [(2, _), (9, _), (10, _), (11, _), (12, _), (221, _), (256, _), (26, _)] a412 := ha412.only [2, 9, 10, 11, 12, 221, 256, 26]; clear ha412
                          have m414 : MemOk _ _ [(5, _), (6, _), (7, _), (11, _), (12, _), (13, _), (14, _), (21, _), (22, _), (23, _), (24, _)] _ := m394.only [5, 6, 7, 11, 12, 13, 14, 21, 22, 23, 24]; clear m394
                          refine region_m 11 (B := [(6, _)]) (m414.to ⟨.inl rfl, trivial⟩) m414 (by kernel_rfl) (fun w415 mB415 m415 => ?_); clear m414 mB415
                          refine d_y 0 ha413 rfl rfl (fun _ => (m415.to ⟨.inl rfl, trivial⟩)) (by kernel_rfl) (by kernel_rfl) (by kernel_rfl) (by rfl) (fun _ _ _ h => h) (fun W => y_move ha413 rfl) ?_
                          clear ha413 a412; intro a416 ha416
                          refine d_y 1 ha416 rfl rfl (fun _ => (m415.to ⟨.inl rfl, trivial⟩)) (by kernel_rfl) (by kernel_rfl) (by kernel_rfl) (by rfl) (fun _ _ _ h => h) (fun W => y_move ha416 rfl) ?_
                          clear ha416 a416; intro a417 ha417
                          refine d_y 2 ha417 rfl rfl (fun _ => (m415.to ⟨.inl rfl, trivial⟩)) (by kernel_rfl) (by kernel_rfl) (by kernel_rfl) (by rfl) (fun _ _ _ h => h) (fun W => y_fieldAddr ha417 (off := 4) rfl Try.underlying39 rfl (s := 0) (by kernel_rfl) rfl) ?_
                          clear ha417 a417; intro a418 ha418
                          refine d_h 3 ha418 rfl rfl (m415.to ⟨.inl rfl, trivial⟩) (by kernel_rfl) (by kernel_rfl) (by kernel_rfl) (by kernel_rfl) (by kernel_rfl) (fun _ _ _ h => h) (fun W hW => y_loadB1 ha418 hW (i := 6) rfl rfl rfl Try.underlying23 rfl) ?_
                          clear ha418 a418; intro a419 ha419
                          refine d_y 5 ha419 rfl rfl (fun _ => (m415.to ⟨.inl rfl, trivial⟩)) (by kernel_rfl) (by kernel_rfl) (by kernel_rfl) (by rfl) (fun _ _ _ h => h) (fun W => y_move ha419 rfl) ?_
                          clear ha419 a419; intro a420 ha420
                          refine d_y 6 ha420 rfl rfl (fun _ => (m415.to ⟨.inl rfl, trivial⟩)) (by kernel_rfl) (by kernel_rfl) (by kernel_rfl) (by rfl) (fun _ _ _ h => h) (fun W => y_move ha420 rfl) ?_
                          clear ha420 a420; intro a421 ha421
                          refine d_y 7 ha421 rfl rfl (fun _ => (m415.to ⟨.inl rfl, trivial⟩)) (by kernel_rfl) (by kernel_rfl) (by kernel_rfl) (by rfl) (fun _ _ _ h => h) (fun W => y_fieldAddr ha421 (off := 4) rfl Try.underlying39 rfl (s := 0) (by kernel_rfl) rfl) ?_
                          clear ha421 a421; intro a422 ha422
                          refine d_h 8 ha422 rfl rfl (m415.to ⟨.inl rfl, trivial⟩) (by kernel_rfl) (by kernel_rfl) (by kernel_rfl) (by kernel_rfl) (by kernel_rfl) (fun _ _ _ h => h) (fun W hW => y_loadB1 ha422 hW (i := 6) rfl rfl rfl Try.underlying23 rfl) ?_
                          clear ha422 a422; intro a423 ha423
                          have m424 := m415.dat 500 rfl (m415.rd (i := 7) rfl); clear m415
                          refine stepE_only 4 rfl (by kernel_rfl) rfl (fun K hK => ?_)
                          refine e_call ha423 Try.func19 rfl rfl rfl rfl (compact_yes _ _ bi bt cf d es _ _ _ _ _ _ kk att xl _ _ _ (by omega) (by omega) (by omega) hst.cf hst.b hek hatt (m424.into [(1, 11), (2, 12), (3, 13), (4, 14), (5, 500)] (by decide) rfl)) ?_
                          rintro e w425 ⟨pc425, cc425, pd425, cd425, pl425, cl425, rfl, hm425⟩
                          have mx425 := m424.back hm425 [(11, 1), (12, 2), (13, 3), (14, 4)] (by decide); clear hm425 m424
                          have m425 : MemOk _ _ [(11, _), (12, _), (13, _), (14, _), (5, _), (6, _), (7, _), (21, _), (22, _), (23, _), (24, _)] _ := mx425.only [11, 12, 13, 14, 5, 6, 7, 21, 22, 23, 24]; clear mx425
                          refine ⟨_, rfl, fun a426 ha426 => ?_⟩; clear ha423 a423
                          refine hK _ _ (m425.to ⟨.inl rfl, trivial⟩) ?_; clear hK K
                          have m427 := m425.dat 501 rfl (m425.rd (i := 7) rfl); clear m425
                          refine stepE_only 9 rfl (by kernel_rfl) rfl (fun K hK => ?_)
                          refine e_call ha426 Try.func20 rfl rfl rfl rfl (rcompact_yes _ _ bi bt cf d es _ _ _ _ _ _ kk att xl _ _ _ (by omega) (by omega) (by omega) hst.cf hst.b hst.r hek hatt (m427.into [(1, 21), (2, 22), (3, 23), (4, 24), (5, 501)] (by decide) rfl)) ?_
                          rintro e w428 ⟨pc428, cc428, pd428, cd428, pl428, cl428, rfl, hm428⟩
                          have mx428 := m427.back hm428 [(21, 1), (22, 2), (23, 3), (24, 4)] (by decide); clear hm428 m427
                          have m428 : MemOk _ _ [(21, _), (22, _), (23, _), (24, _), (5, _), (6, _), (7, _), (11, _), (12, _), (13, _), (14, _)] _ := mx428.only [21, 22, 23, 24, 5, 6, 7, 11, 12, 13, 14]; clear mx428
                          refine ⟨_, rfl, fun a429 ha429 => ?_⟩; clear ha426 a426
                          refine hK _ _ (m428.to ⟨.inl rfl, trivial⟩) ?_; clear hK K
                          refine d_y 10 ha429 rfl rfl (fun _ => (m428.to ⟨.inl rfl, trivial⟩)) (by kernel_rfl) (by kernel_rfl) (by kernel_rfl) (by rfl) (fun _ _ _ h => h) (fun W => y_neqB ha429 rfl rfl Try.underlying4) ?_
                          clear ha429 a429; intro a430 ha430
                          refine wpAnyE_done (by kernel_rfl) ?_ _
                          refine hK47 _ _ ?_; clear hK47; try clear K47
                          refine bool_cases ha430 (t := 285) rfl (fun hb431 ha431 => ?_) (fun hb431 ha431 => ?_)
                          · exact absurd hb431 (by simp)
                          clear ha430 hb431
                          refine wp_cond_false (ha431.ev (x := .tmp 285) rfl) ?_
                          refine wp_skip ?_
                          exact hC20 _ _ ⟨att, et, confL cf es att, xl, es.drop (kk + 1), _, _, _, _, _, _, _, _, _, _, _, _, _, _, _, _, _, (st_com hst hek hatt (by omega)), ha431.only [2, 9, 10, 11, 12], m428.only [11, 12, 13, 14, 21, 22, 23, 24, 5, 6, 7]⟩
                        · skip
                          have hout : att ≤ bi ∨ bi + es.length < att := by unfold inB at hH; omega
                          have ha432 : Has 294 [(2, _), (9, _), (10, _), (11, _), (12, _), (221, _), (256, _), (26, _)] a412 := ha412.only [2, 9, 10, 11, 12, 221, 256, 26]; clear ha412
                          have m433 : MemOk _ _ [(5, _), (6, _), (7, _), (11, _), (12, _), (13, _), (14, _), (21, _), (22, _), (23, _), (24, _)] _ := m394.only [5, 6, 7, 11, 12, 13, 14, 21, 22, 23, 24]; clear m394
                          refine region_m 11 (B := [(6, _)]) (m433.to ⟨.inl rfl, trivial⟩) m433 (by kernel_rfl) (fun w434 mB434 m434 => ?_); clear m433 mB434
                          refine d_y 0 ha432 rfl rfl (fun _ => (m434.to ⟨.inl rfl, trivial⟩)) (by kernel_rfl) (by kernel_rfl) (by kernel_rfl) (by rfl) (fun _ _ _ h => h) (fun W => y_move ha432 rfl) ?_
                          clear ha432 a412; intro a435 ha435
                          refine d_y 1 ha435 rfl rfl (fun _ => (m434.to ⟨.inl rfl, trivial⟩)) (by kernel_rfl) (by kernel_rfl) (by kernel_rfl) (by rfl) (fun _ _ _ h => h) (fun W => y_move ha435 rfl) ?_
                          clear ha435 a435; intro a436 ha436
                          refine d_y 2 ha436 rfl rfl (fun _ => (m434.to ⟨.inl rfl, trivial⟩)) (by kernel_rfl) (by kernel_rfl) (by kernel_rfl) (by rfl) (fun _ _ _ h => h) (fun W => y_fieldAddr ha436 (off := 4) rfl Try.underlying39 rfl (s := 0) (by kernel_rfl) rfl) ?_
                          clear ha436 a436; intro a437 ha437
                          refine d_h 3 ha437 rfl rfl (m434.to ⟨.inl rfl, trivial⟩) (by kernel_rfl) (by kernel_rfl) (by kernel_rfl) (by kernel_rfl) (by kernel_rfl) (fun _ _ _ h => h) (fun W hW => y_loadB1 ha437 hW (i := 6) rfl rfl rfl Try.underlying23 rfl) ?_
                          clear ha437 a437; intro a438 ha438
                          refine d_y 5 ha438 rfl rfl (fun _ => (m434.to ⟨.inl rfl, trivial⟩)) (by kernel_rfl) (by kernel_rfl) (by kernel_rfl) (by rfl) (fun _ _ _ h => h) (fun W => y_move ha438 rfl) ?_
                          clear ha438 a438; intro a439 ha439
                          refine d_y 6 ha439 rfl rfl (fun _ => (m434.to ⟨.inl rfl, trivial⟩)) (by kernel_rfl) (by kernel_rfl) (by kernel_rfl) (by rfl) (fun _ _ _ h => h) (fun W => y_move ha439 rfl) ?_
                          clear ha439 a439; intro a440 ha440
                          refine d_y 7 ha440 rfl rfl (fun _ => (m434.to ⟨.inl rfl, trivial⟩)) (by kernel_rfl) (by kernel_rfl) (by kernel_rfl) (by rfl) (fun _ _ _ h => h) (fun W => y_fieldAddr ha440 (off := 4) rfl Try.underlying39 rfl (s := 0) (by kernel_rfl) rfl) ?_
                          clear ha440 a440; intro a441 ha441
                          refine d_h 8 ha441 rfl rfl (m434.to ⟨.inl rfl, trivial⟩) (by kernel_rfl) (by kernel_rfl) (by kernel_rfl) (by kernel_rfl) (by kernel_rfl) (fun _ _ _ h => h) (fun W hW => y_loadB1 ha441 hW (i := 6) rfl rfl rfl Try.underlying23 rfl) ?_
                          clear ha441 a441; intro a442 ha442
                          have m443 := m434.dat 500 rfl (m434.rd (i := 7) rfl); clear m434
                          refine stepE_only 4 rfl (by kernel_rfl) rfl (fun K hK => ?_)
                          refine e_call ha442 Try.func19 rfl rfl rfl rfl (compact_no _ _ bi bt cf d es _ _ _ _ _ _ att xl _ _ _ (by omega) (by omega) hout (m443.into [(1, 11), (2, 12), (3, 13), (4, 14), (5, 500)] (by decide) rfl)) ?_
                          rintro e w444 ⟨rfl, hm444⟩
                          have mx444 := m443.back hm444 [(11, 1), (12, 2), (13, 3), (14, 4)] (by decide); clear hm444 m443
                          have m444 : MemOk _ _ [(11, _), (12, _), (13, _), (14, _), (5, _), (6, _), (7, _), (21, _), (22, _), (23, _), (24, _)] _ := mx444.only [11, 12, 13, 14, 5, 6, 7, 21, 22, 23, 24]; clear mx444
                          refine ⟨_, rfl, fun a445 ha445 => ?_⟩; clear ha442 a442
                          refine hK _ _ (m444.to ⟨.inl rfl, trivial⟩) ?_; clear hK K
                          have m446 := m444.dat 501 rfl (m444.rd (i := 7) rfl); clear m444
                          refine stepE_only 9 rfl (by kernel_rfl) rfl (fun K hK => ?_)
                          refine e_call ha445 Try.func20 rfl rfl rfl rfl (rcompact_no _ _ bi bt cf d es _ _ _ _ _ _ att xl _ _ _ (by omega) (by omega) hout (m446.into [(1, 21), (2, 22), (3, 23), (4, 24), (5, 501)] (by decide) rfl)) ?_
                          rintro e w447 ⟨rfl, hm447⟩
                          have mx447 := m446.back hm447 [(21, 1), (22, 2), (23, 3), (24, 4)] (by decide); clear hm447 m446
                          have m447 : MemOk _ _ [(21, _), (22, _), (23, _), (24, _), (5, _), (6, _), (7, _), (11, _), (12, _), (13, _), (14, _)] _ := mx447.only [21, 22, 23, 24, 5, 6, 7, 11, 12, 13, 14]; clear mx447
                          refine ⟨_, rfl, fun a448 ha448 => ?_⟩; clear ha445 a445
                          refine hK _ _ (m447.to ⟨.inl rfl, trivial⟩) ?_; clear hK K
                          refine d_y 10 ha448 rfl rfl (fun _ => (m447.to ⟨.inl rfl, trivial⟩)) (by kernel_rfl) (by kernel_rfl) (by kernel_rfl) (by rfl) (fun _ _ _ h => h) (fun W => y_neqB ha448 rfl rfl Try.underlying4) ?_
                          clear ha448 a448; intro a449 ha449
                          refine wpAnyE_done (by kernel_rfl) ?_ _
                          refine hK47 _ _ ?_; clear hK47; try clear K47
                          refine bool_cases ha449 (t := 285) rfl (fun hb450 ha450 => ?_) (fun hb450 ha450 => ?_)
                          · exact absurd hb450 (by simp)
                          clear ha449 hb450
                          refine wp_cond_false (ha450.ev (x := .tmp 285) rfl) ?_
                          refine wp_skip ?_
                          exact hC20 _ _ ⟨bi, bt, cf, d, es, _, _, _, _, _, _, _, _, _, _, _, _, _, _, _, _, _, (hst.up (by omega)), ha450.only [2, 9, 10, 11, 12], m447.only [11, 12, 13, 14, 21, 22, 23, 24, 5, 6, 7]⟩
                      · skip
                        clear ha391
                        try simp only [decide_eq_true_eq, decide_eq_false_iff_not, Bool.not_eq_true, Bool.not_eq_false, Bool.not_eq_eq_eq_not, Bool.not_true, Bool.not_false, Bool.not_not, Int.not_lt, Int.not_le, ne_eq, Decidable.not_not] at hb392
                        refine wp_cond_false (ha392.ev (x := .tmp 256) rfl) ?_
                        refine wp_seq_k (fun K48 hK48 => ?_)
                        refine wp_region_lit ?_
                        refine st_y ha392 rfl (y_fieldAddr ha392 (off := 2) rfl Try.underlying39 rfl (s := 0) (by kernel_rfl) rfl) ?_
                        clear ha392 a391; intro a451 ha451
                        refine st_y ha451 rfl (y_loadB1 ha451 m335 (i := 6) rfl rfl rfl Try.underlying5 rfl) ?_
                        clear ha451 a451; intro a452 ha452
                        refine st_y ha452 rfl (y_rem ha452 rfl rfl (by decide) (Int.tmod_eq_emod_of_nonneg (by omega))) ?_
                        clear ha452 a452; intro a453 ha453
                        refine st_y ha453 rfl (y_eql ha453 rfl rfl) ?_
                        clear ha453 a453; intro a454 ha454
                        refine wpList_nil ?_
                        refine hK48 _ _ ?_; clear hK48; try clear K48
                        refine bool_cases ha454 (t := 96) rfl (fun hb455 ha455 => ?_) (fun hb455 ha455 => ?_)
                        · skip
                          clear ha454
                          try simp only [decide_eq_true_eq, decide_eq_false_iff_not, Bool.not_eq_true, Bool.not_eq_false, Bool.not_eq_eq_eq_not, Bool.not_true, Bool.not_false, Bool.not_not, Int.not_lt, Int.not_le, ne_eq, Decidable.not_not] at hb455
                          refine wp_cond_true (ha455.ev (x := .tmp 96) rfl) ?_
                          refine wp_seq_k (fun K49 hK49 => ?_)
                          have hC49 : ∀ (a : Act) (w : World), (∃ (nb : Int) (D9 : Nat) (pg : Option Addr) (cg : Nat), bi + es.length ≤ nb ∧ nb ≤ bi + es.length + 4 ∧ Has 294 [(2, .slice p5 acts.length c5), (9, .pointer (some ⟨BB, 0, none⟩)), (10, .pointer (some ⟨CC, 0, none⟩)), (11, .int .i64 (i : Int)), (12, .pointer (some ⟨D6, 0, none⟩)), (27, .pointer (some ⟨D9, 0, none⟩))] a ∧ MemOk (cx (fun _ => True) w0) w0 [(11, .box BB 56 [.int .i64 bi, .int .i64 bt, .slice pc1 cf.length cc1, .slice pd1 d.length cd1, .slice pl1 (es.map entD).length cl1]), (12, .seg (.slice pl1 (es.map entD).length cl1) 32 4 (es.map entD)), (13, .dat (.slice pc1 cf.length cc1) (.ns .i64 cf)), (14, .dat (.slice pd1 d.length cd1) (.ns .u8 d)), (21, .box CC 41 [.int .i64 bi, .int .i64 bt, .slice pc2 cf.length cc2, .slice pd2 d.length cd2, .slice pl2 (es.map entD).length cl2]), (22, .seg (.slice pl2 (es.map entD).length cl2) 32 4 (es.map entD)), (23, .dat (.slice pc2 cf.length cc2) (.ns .i64 cf)), (24, .dat (.slice pd2 d.length cd2) (.ns .u8 d)), (5, .dat (.slice p5 acts.length c5) (.l 5 (acts.map lactD))), (6, .box D6 39 [.int .u8 xw, .int .u8 xa, .int .u8 xb, .int .u8 xc, .slice pf xl.length cf6]), (7, .dat (.slice pf xl.length cf6) (.ns .u8 xl)), (8, .dat (.slice pg [0, 2].length cg) (.ns .i64 [0, 2])), (9, .box D9 28 [.int .i64 nb, .int .i64 xb, .slice pg [0, 2].length cg, .slice pf xl.length cf6])] w) → K49 a w := by
                            clear ha455 m335
                            rintro a456 w456 ⟨nb, D9, pg, cg, hnb1, hnb2, ha456, m456⟩
                            refine hK49 _ _ ?_; clear hK49; try clear K49
                            refine wp_seq_k (fun K50 hK50 => ?_)
                            refine wp_region_lit ?_
                            refine st_y ha456 rfl (y_move ha456 rfl) ?_
                            clear ha456 a456; intro a457 ha457
                            refine st_y ha457 rfl (y_loadBR ha457 m456 (i := 9) rfl rfl Try.underlying28 rfl sz28lp (by simp) (by dsimp only [List.drop, List.take] <;> rfl)) ?_
                            clear ha457 a457; intro a458 ha458
                            have m459 := m456.dat 600 rfl (m456.rd (i := 8) rfl); clear m456
                            have m460 := m459.dat 601 rfl (m459.rd (i := 7) rfl); clear m459
                            refine wpList_plain rfl (fun K hK => ?_)
                            refine e_call ha458 Try.func22 rfl rfl rfl rfl (reset_fr _ _ _ _ _ _ _ _ nb xb [0, 2] xl _ _ _ _ (by decide) (by omega) (m460.into [(1, 11), (5, 600), (6, 601)] (by decide) rfl)) ?_
                            rintro e w461 ⟨pc461, cc461, pd461, cd461, rfl, hm461⟩
                            have mx461 := m460.back hm461 [(11, 1), (12, 2), (13, 3), (14, 4)] (by decide); clear hm461 m460
                            have m461 : MemOk _ _ [(11, _), (12, _), (13, _), (14, _), (5, _), (6, _), (7, _), (8, _), (9, _), (21, _), (22, _), (23, _), (24, _)] _ := mx461.only [11, 12, 13, 14, 5, 6, 7, 8, 9, 21, 22, 23, 24]; clear mx461
                            refine ⟨_, rfl, fun a462 ha462 => ?_⟩; clear ha458 a458
                            refine hK _ _ ?_; clear hK K
                            refine wpList_nil ?_
                            refine hK50 _ _ ?_; clear hK50; try clear K50
                            refine wp_region_lit ?_
                            refine st_y ha462 rfl (y_move ha462 rfl) ?_
                            clear ha462 a462; intro a463 ha463
                            refine st_y ha463 rfl (y_loadBR ha463 m461 (i := 9) rfl rfl Try.underlying28 rfl sz28lp (by simp) (by dsimp only [List.drop, List.take] <;> rfl)) ?_
                            clear ha463 a463; intro a464 ha464
                            have m465 := m461.dat 602 rfl (m461.rd (i := 8) rfl); clear m461
                            have m466 := m465.dat 603 rfl (m465.rd (i := 7) rfl); clear m465
                            refine wpList_plain rfl (fun K hK => ?_)
                            refine e_call ha464 Try.func23 rfl rfl rfl rfl (rreset_fr _ _ _ _ _ _ _ _ nb xb [0, 2] xl _ _ _ _ (m466.into [(1, 21), (5, 602), (6, 603)] (by decide) rfl)) ?_
                            rintro e w467 ⟨rfl, hm467⟩
                            have mx467 := m466.back hm467 [(21, 1), (22, 2), (23, 3), (24, 4)] (by decide); clear hm467 m466
                            have m467 : MemOk _ _ [(21, _), (22, _), (23, _), (24, _), (5, _), (6, _), (7, _), (8, _), (9, _), (11, _), (12, _), (13, _), (14, _)] _ := mx467.only [21, 22, 23, 24, 5, 6, 7, 8, 9, 11, 12, 13, 14]; clear mx467
                            refine ⟨_, rfl, fun a468 ha468 => ?_⟩; clear ha464 a464
                            refine hK _ _ ?_; clear hK K
                            refine wpList_nil ?_
                            exact hC20 _ _ ⟨nb, xb, [0, 2], xl, [], _, _, _, _, _, _, _, _, _, _, _, _, _, _, _, _, _, (st_res hst (by omega) (by omega) (by omega) (by omega)), ha468.only [2, 9, 10, 11, 12], m467.only [11, 12, 13, 14, 21, 22, 23, 24, 5, 6, 7]⟩
                          obtain ⟨nb, hnb⟩ : ∃ x : Int, bi + es.length + xa % 5 = x := ⟨_, rfl⟩
                          have m469 : MemOk _ _ [(5, _), (6, _), (7, _), (11, _), (12, _), (13, _), (14, _), (21, _), (22, _), (23, _), (24, _)] _ := m335.only [5, 6, 7, 11, 12, 13, 14, 21, 22, 23, 24]; clear m335
                          refine region_m 15 (B := [(6, _)]) (m469.to ⟨.inl rfl, trivial⟩) m469 (by kernel_rfl) (fun w470 mB470 m470 => ?_); clear m469 mB470
                          refine d_y 0 ha455 rfl rfl (fun _ => (m470.to ⟨.inl rfl, trivial⟩)) (by kernel_rfl) (by kernel_rfl) (by kernel_rfl) (by rfl) (fun _ _ _ h => h) (fun W => y_move ha455 rfl) ?_
                          clear ha455 a454; intro a471 ha471
                          refine d_y 2 ha471 rfl rfl (fun _ => (m470.to ⟨.inl rfl, trivial⟩)) (by kernel_rfl) (by kernel_rfl) (by kernel_rfl) (by rfl) (fun _ _ _ h => h) (fun W => y_fieldAddr ha471 (off := 1) rfl Try.underlying39 rfl (s := 0) (by kernel_rfl) rfl) ?_
                          clear ha471 a471; intro a472 ha472
                          refine d_r 3 ha472 rfl rfl (m470.to ⟨.inl rfl, trivial⟩) (by kernel_rfl) (by kernel_rfl) (by kernel_rfl) (by kernel_rfl) (by kernel_rfl) (fun _ _ _ h => h) (fun W hW => y_loadB1 ha472 hW (i := 6) rfl rfl rfl Try.underlying5 rfl) ?_
                          clear ha472 a472; intro a473 ha473
                          refine d_y 4 ha473 rfl rfl (fun _ => (m470.to ⟨.inl rfl, trivial⟩)) (by kernel_rfl) (by kernel_rfl) (by kernel_rfl) (by rfl) (fun _ _ _ h => h) (fun W => y_rem ha473 rfl rfl (by decide) (Int.tmod_eq_emod_of_nonneg (by omega))) ?_
                          clear ha473 a473; intro a474 ha474
                          refine d_y 5 ha474 rfl rfl (fun _ => (m470.to ⟨.inl rfl, trivial⟩)) (by kernel_rfl) (by kernel_rfl) (by kernel_rfl) (by rfl) (fun _ _ _ h => h) (fun W => y_conv ha474 rfl Try.underlying5 Try.underlying3 (r := xa % 5) (IntWalk.i64_in _ (by omega))) ?_
                          clear ha474 a474; intro a475 ha475
                          refine d_y 7 ha475 rfl rfl (fun _ => (m470.to ⟨.inl rfl, trivial⟩)) (by kernel_rfl) (by kernel_rfl) (by kernel_rfl) (by rfl) (fun _ _ _ h => h) (fun W => y_fieldAddr ha475 (off := 2) rfl Try.underlying39 rfl (s := 0) (by kernel_rfl) rfl) ?_
                          clear ha475 a475; intro a476 ha476
                          refine d_r 8 ha476 rfl rfl (m470.to ⟨.inl rfl, trivial⟩) (by kernel_rfl) (by kernel_rfl) (by kernel_rfl) (by kernel_rfl) (by kernel_rfl) (fun _ _ _ h => h) (fun W hW => y_loadB1 ha476 hW (i := 6) rfl rfl rfl Try.underlying5 rfl) ?_
                          clear ha476 a476; intro a477 ha477
                          refine d_y 9 ha477 rfl rfl (fun _ => (m470.to ⟨.inl rfl, trivial⟩)) (by kernel_rfl) (by kernel_rfl) (by kernel_rfl) (by rfl) (fun _ _ _ h => h) (fun W => y_conv ha477 rfl Try.underlying5 Try.underlying3 (r := xb) (IntWalk.i64_in _ (by omega))) ?_
                          clear ha477 a477; intro a478 ha478
                          refine d_y 11 ha478 rfl rfl (fun _ => (m470.to ⟨.inl rfl, trivial⟩)) (by kernel_rfl) (by kernel_rfl) (by kernel_rfl) (by rfl) (fun _ _ _ h => h) (fun W => y_fieldAddr ha478 (off := 4) rfl Try.underlying39 rfl (s := 0) (by kernel_rfl) rfl) ?_
                          clear ha478 a478; intro a479 ha479
                          refine d_r 12 ha479 rfl rfl (m470.to ⟨.inl rfl, trivial⟩) (by kernel_rfl) (by kernel_rfl) (by kernel_rfl) (by kernel_rfl) (by kernel_rfl) (fun _ _ _ h => h) (fun W hW => y_loadB1 ha479 hW (i := 6) rfl rfl rfl Try.underlying23 rfl) ?_
                          clear ha479 a479; intro a480 ha480
                          refine d_three 1 10 14 rfl rfl rfl (by kernel_rfl) rfl rfl rfl (fun K hK => ?_) (fun K hK => ?_) (fun K hK => ?_)
                          · skip
                            refine e_call ha480 Try.func21 rfl rfl rfl rfl (rlast_any _ bi bt cf d es _ _ _ _ _ _ _ (m470.ok 21 _ rfl : Res.ok _ _ _ _ (.box _ _ _)).1 ((m470.ok 22 _ rfl : Res.ok _ _ _ _ (.seg _ _ _ _)).1.rd (S' := fun _ => True) (fun _ _ _ => trivial) (fun _ _ => trivial)) (by omega) (by omega)) ?_
                            rintro e w481 ⟨rfl, hb481⟩
                            have m482 := m470.later hb481
                            clear m470
                            clear hb481
                            refine ⟨_, rfl, fun a483 ha483 => ?_⟩; clear ha480 a480
                            refine hK _ _ (fun _ => (m482.to ⟨.inl rfl, trivial⟩)) ?_; clear hK K
                            refine d_y 6 ha483 rfl rfl (fun _ => (m482.to ⟨.inl rfl, trivial⟩)) (by kernel_rfl) (by kernel_rfl) (by kernel_rfl) (by rfl) (fun _ _ _ h => h) (fun W => y_add ha483 rfl rfl (r := nb) (by rw [← hnb]; exact IntWalk.i64_in _ (by omega))) ?_
                            clear ha483 a483; intro a484 ha484
                            refine d_two 10 14 rfl rfl (by kernel_rfl) rfl rfl (fun K hK => ?_) (fun K hK => ?_)
                            · skip
                              refine e_litN ha484 m482 500 (k := .i64) rfl rfl Try.underlying26 inf3lp rfl rfl rfl rfl ?_
                              clear ha484 a484 m482; intro g485 a486 w486 ha486 m486 
                              refine hK _ _ (fun _ => (m486.to ⟨.inl rfl, trivial⟩)) ?_; clear hK K
                              refine d_y 13 ha486 rfl rfl (fun _ => (m486.to ⟨.inl rfl, trivial⟩)) (by kernel_rfl) (by kernel_rfl) (by kernel_rfl) (by rfl) (fun _ _ _ h => h) (fun W => y_build ha486 rfl zc28lp fl28lp rfl (by dsimp only [setL, List.set] <;> rfl)) ?_
                              clear ha486 a486; intro a487 ha487
                              refine stepE_only 14 rfl (by kernel_rfl) rfl (fun K hK => ?_)
                              refine e_alloc ha487 m486 501 zc28lp rfl ?_
                              clear ha487 a487 m486; intro g488 a489 w489 ha489 m489 hB489 hg489
                              clear hB489 hg489
                              refine hK _ _ (m489.to ⟨.inl rfl, trivial⟩) ?_; clear hK K
                              refine stepE_end 15 rfl (by kernel_rfl) rfl (by rfl) (fun K hK => ?_)
                              refine e_storeW ha489 m489 501 rfl rfl rfl rfl rfl sz28lp ?_
                              clear m489; intro w490 m490 hB490
                              clear hB490
                              refine hK _ _ ?_; clear hK K
                              refine wpAnyE_done (by kernel_rfl) ?_ _
                              have m491 := m490.freezeN 500 rfl; clear m490
                              exact hC49 _ _ ⟨nb, _, _, _, by omega, by omega, ha489.only [2, 9, 10, 11, 12, 27], m491.ren [(11, 11), (12, 12), (13, 13), (14, 14), (21, 21), (22, 22), (23, 23), (24, 24), (5, 5), (6, 6), (7, 7), (8, 500), (9, 501)] (by decide)⟩
                            · skip
                              refine e_alloc ha484 m482 500 zc28lp rfl ?_
                              clear ha484 a484 m482; intro g492 a493 w493 ha493 m493 hB493 hg493
                              clear hB493 hg493
                              refine hK _ _ (fun _ => (m493.to ⟨.inl rfl, trivial⟩)) ?_; clear hK K
                              refine stepE_only 10 rfl (by kernel_rfl) rfl (fun K hK => ?_)
                              refine e_litN ha493 m493 501 (k := .i64) rfl rfl Try.underlying26 inf3lp rfl rfl rfl rfl ?_
                              clear ha493 a493 m493; intro g494 a495 w495 ha495 m495 
                              refine hK _ _ (m495.to ⟨.inl rfl, trivial⟩) ?_; clear hK K
                              refine d_y 13 ha495 rfl rfl (fun _ => (m495.to ⟨.inl rfl, trivial⟩)) (by kernel_rfl) (by kernel_rfl) (by kernel_rfl) (by rfl) (fun _ _ _ h => h) (fun W => y_build ha495 rfl zc28lp fl28lp rfl (by dsimp only [setL, List.set] <;> rfl)) ?_
                              clear ha495 a495; intro a496 ha496
                              refine stepE_end 15 rfl (by kernel_rfl) rfl (by rfl) (fun K hK => ?_)
                              refine e_storeW ha496 m495 500 rfl rfl rfl rfl rfl sz28lp ?_
                              clear m495; intro w497 m497 hB497
                              clear hB497
                              refine hK _ _ ?_; clear hK K
                              refine wpAnyE_done (by kernel_rfl) ?_ _
                              have m498 := m497.freezeN 501 rfl; clear m497
                              exact hC49 _ _ ⟨nb, _, _, _, by omega, by omega, ha496.only [2, 9, 10, 11, 12, 27], m498.ren [(11, 11), (12, 12), (13, 13), (14, 14), (21, 21), (22, 22), (23, 23), (24, 24), (5, 5), (6, 6), (7, 7), (8, 501), (9, 500)] (by decide)⟩
                          · skip
                            refine e_litN ha480 m470 500 (k := .i64) rfl rfl Try.underlying26 inf3lp rfl rfl rfl rfl ?_
                            clear ha480 a480 m470; intro g499 a500 w500 ha500 m500 
                            refine hK _ _ (fun _ => (m500.to ⟨.inl rfl, trivial⟩)) ?_; clear hK K
                            refine d_two 1 14 rfl rfl (by kernel_rfl) rfl rfl (fun K hK => ?_) (fun K hK => ?_)
                            · skip
                              refine e_call ha500 Try.func21 rfl rfl rfl rfl (rlast_any _ bi bt cf d es _ _ _ _ _ _ _ (m500.ok 21 _ rfl : Res.ok _ _ _ _ (.box _ _ _)).1 ((m500.ok 22 _ rfl : Res.ok _ _ _ _ (.seg _ _ _ _)).1.rd (S' := fun _ => True) (fun _ _ _ => trivial) (fun _ _ => trivial)) (by omega) (by omega)) ?_
                              rintro e w501 ⟨rfl, hb501⟩
                              have m502 := m500.later hb501
                              clear m500
                              clear hb501
                              refine ⟨_, rfl, fun a503 ha503 => ?_⟩; clear ha500 a500
                              refine hK _ _ (fun _ => (m502.to ⟨.inl rfl, trivial⟩)) ?_; clear hK K
                              refine d_y 6 ha503 rfl rfl (fun _ => (m502.to ⟨.inl rfl, trivial⟩)) (by kernel_rfl) (by kernel_rfl) (by kernel_rfl) (by rfl) (fun _ _ _ h => h) (fun W => y_add ha503 rfl rfl (r := nb) (by rw [← hnb]; exact IntWalk.i64_in _ (by omega))) ?_
                              clear ha503 a503; intro a504 ha504
                              refine d_y 13 ha504 rfl rfl (fun _ => (m502.to ⟨.inl rfl, trivial⟩)) (by kernel_rfl) (by kernel_rfl) (by kernel_rfl) (by rfl) (fun _ _ _ h => h) (fun W => y_build ha504 rfl zc28lp fl28lp rfl (by dsimp only [setL, List.set] <;> rfl)) ?_
                              clear ha504 a504; intro a505 ha505
                              refine stepE_only 14 rfl (by kernel_rfl) rfl (fun K hK => ?_)
                              refine e_alloc ha505 m502 501 zc28lp rfl ?_
                              clear ha505 a505 m502; intro g506 a507 w507 ha507 m507 hB507 hg507
                              clear hB507 hg507
                              refine hK _ _ (m507.to ⟨.inl rfl, trivial⟩) ?_; clear hK K
                              refine stepE_end 15 rfl (by kernel_rfl) rfl (by rfl) (fun K hK => ?_)
                              refine e_storeW ha507 m507 501 rfl rfl rfl rfl rfl sz28lp ?_
                              clear m507; intro w508 m508 hB508
                              clear hB508
                              refine hK _ _ ?_; clear hK K
                              refine wpAnyE_done (by kernel_rfl) ?_ _
                              have m509 := m508.freezeN 500 rfl; clear m508
                              exact hC49 _ _ ⟨nb, _, _, _, by omega, by omega, ha507.only [2, 9, 10, 11, 12, 27], m509.ren [(11, 11), (12, 12), (13, 13), (14, 14), (21, 21), (22, 22), (23, 23), (24, 24), (5, 5), (6, 6), (7, 7), (8, 500), (9, 501)] (by decide)⟩
                            · skip
                              refine e_alloc ha500 m500 501 zc28lp rfl ?_
                              clear ha500 a500 m500; intro g510 a511 w511 ha511 m511 hB511 hg511
                              clear hB511 hg511
                              refine hK _ _ (fun _ => (m511.to ⟨.inl rfl, trivial⟩)) ?_; clear hK K
                              refine stepE_only 1 rfl (by kernel_rfl) rfl (fun K hK => ?_)
                              refine e_call ha511 Try.func21 rfl rfl rfl rfl (rlast_any _ bi bt cf d es _ _ _ _ _ _ _ (m511.ok 21 _ rfl : Res.ok _ _ _ _ (.box _ _ _)).1 ((m511.ok 22 _ rfl : Res.ok _ _ _ _ (.seg _ _ _ _)).1.rd (S' := fun _ => True) (fun _ _ _ => trivial) (fun _ _ => trivial)) (by omega) (by omega)) ?_
                              rintro e w512 ⟨rfl, hb512⟩
                              have m513 := m511.later hb512
                              clear m511
                              clear hb512
                              refine ⟨_, rfl, fun a514 ha514 => ?_⟩; clear ha511 a511
                              refine hK _ _ (m513.to ⟨.inl rfl, trivial⟩) ?_; clear hK K
                              refine d_y 6 ha514 rfl rfl (fun _ => (m513.to ⟨.inl rfl, trivial⟩)) (by kernel_rfl) (by kernel_rfl) (by kernel_rfl) (by rfl) (fun _ _ _ h => h) (fun W => y_add ha514 rfl rfl (r := nb) (by rw [← hnb]; exact IntWalk.i64_in _ (by omega))) ?_
                              clear ha514 a514; intro a515 ha515
                              refine d_y 13 ha515 rfl rfl (fun _ => (m513.to ⟨.inl rfl, trivial⟩)) (by kernel_rfl) (by kernel_rfl) (by kernel_rfl) (by rfl) (fun _ _ _ h => h) (fun W => y_build ha515 rfl zc28lp fl28lp rfl (by dsimp only [setL, List.set] <;> rfl)) ?_
                              clear ha515 a515; intro a516 ha516
                              refine stepE_end 15 rfl (by kernel_rfl) rfl (by rfl) (fun K hK => ?_)
                              refine e_storeW ha516 m513 501 rfl rfl rfl rfl rfl sz28lp ?_
                              clear m513; intro w517 m517 hB517
                              clear hB517
                              refine hK _ _ ?_; clear hK K
                              refine wpAnyE_done (by kernel_rfl) ?_ _
                              have m518 := m517.freezeN 500 rfl; clear m517
                              exact hC49 _ _ ⟨nb, _, _, _, by omega, by omega, ha516.only [2, 9, 10, 11, 12, 27], m518.ren [(11, 11), (12, 12), (13, 13), (14, 14), (21, 21), (22, 22), (23, 23), (24, 24), (5, 5), (6, 6), (7, 7), (8, 500), (9, 501)] (by decide)⟩
                          · skip
                            refine e_alloc ha480 m470 500 zc28lp rfl ?_
                            clear ha480 a480 m470; intro g519 a520 w520 ha520 m520 hB520 hg520
                            clear hB520 hg520
                            refine hK _ _ (fun _ => (m520.to ⟨.inl rfl, trivial⟩)) ?_; clear hK K
                            refine d_two 1 10 rfl rfl (by kernel_rfl) rfl rfl (fun K hK => ?_) (fun K hK => ?_)
                            · skip
                              refine e_call ha520 Try.func21 rfl rfl rfl rfl (rlast_any _ bi bt cf d es _ _ _ _ _ _ _ (m520.ok 21 _ rfl : Res.ok _ _ _ _ (.box _ _ _)).1 ((m520.ok 22 _ rfl : Res.ok _ _ _ _ (.seg _ _ _ _)).1.rd (S' := fun _ => True) (fun _ _ _ => trivial) (fun _ _ => trivial)) (by omega) (by omega)) ?_
                              rintro e w521 ⟨rfl, hb521⟩
                              have m522 := m520.later hb521
                              clear m520
                              clear hb521
                              refine ⟨_, rfl, fun a523 ha523 => ?_⟩; clear ha520 a520
                              refine hK _ _ (fun _ => (m522.to ⟨.inl rfl, trivial⟩)) ?_; clear hK K
                              refine d_y 6 ha523 rfl rfl (fun _ => (m522.to ⟨.inl rfl, trivial⟩)) (by kernel_rfl) (by kernel_rfl) (by kernel_rfl) (by rfl) (fun _ _ _ h => h) (fun W => y_add ha523 rfl rfl (r := nb) (by rw [← hnb]; exact IntWalk.i64_in _ (by omega))) ?_
                              clear ha523 a523; intro a524 ha524
                              refine stepE_only 10 rfl (by kernel_rfl) rfl (fun K hK => ?_)
                              refine e_litN ha524 m522 501 (k := .i64) rfl rfl Try.underlying26 inf3lp rfl rfl rfl rfl ?_
                              clear ha524 a524 m522; intro g525 a526 w526 ha526 m526 
                              refine hK _ _ (m526.to ⟨.inl rfl, trivial⟩) ?_; clear hK K
                              refine d_y 13 ha526 rfl rfl (fun _ => (m526.to ⟨.inl rfl, trivial⟩)) (by kernel_rfl) (by kernel_rfl) (by kernel_rfl) (by rfl) (fun _ _ _ h => h) (fun W => y_build ha526 rfl zc28lp fl28lp rfl (by dsimp only [setL, List.set] <;> rfl)) ?_
                              clear ha526 a526; intro a527 ha527
                              refine stepE_end 15 rfl (by kernel_rfl) rfl (by rfl) (fun K hK => ?_)
                              refine e_storeW ha527 m526 500 rfl rfl rfl rfl rfl sz28lp ?_
                              clear m526; intro w528 m528 hB528
                              clear hB528
                              refine hK _ _ ?_; clear hK K
                              refine wpAnyE_done (by kernel_rfl) ?_ _
                              have m529 := m528.freezeN 501 rfl; clear m528
                              exact hC49 _ _ ⟨nb, _, _, _, by omega, by omega, ha527.only [2, 9, 10, 11, 12, 27], m529.ren [(11, 11), (12, 12), (13, 13), (14, 14), (21, 21), (22, 22), (23, 23), (24, 24), (5, 5), (6, 6), (7, 7), (8, 501), (9, 500)] (by decide)⟩
                            · skip
                              refine e_litN ha520 m520 501 (k := .i64) rfl rfl Try.underlying26 inf3lp rfl rfl rfl rfl ?_
                              clear ha520 a520 m520; intro g530 a531 w531 ha531 m531 
                              refine hK _ _ (fun _ => (m531.to ⟨.inl rfl, trivial⟩)) ?_; clear hK K
                              refine stepE_only 1 rfl (by kernel_rfl) rfl (fun K hK => ?_)
                              refine e_call ha531 Try.func21 rfl rfl rfl rfl (rlast_any _ bi bt cf d es _ _ _ _ _ _ _ (m531.ok 21 _ rfl : Res.ok _ _ _ _ (.box _ _ _)).1 ((m531.ok 22 _ rfl : Res.ok _ _ _ _ (.seg _ _ _ _)).1.rd (S' := fun _ => True) (fun _ _ _ => trivial) (fun _ _ => trivial)) (by omega) (by omega)) ?_
                              rintro e w532 ⟨rfl, hb532⟩
                              have m533 := m531.later hb532
                              clear m531
                              clear hb532
                              refine ⟨_, rfl, fun a534 ha534 => ?_⟩; clear ha531 a531
                              refine hK _ _ (m533.to ⟨.inl rfl, trivial⟩) ?_; clear hK K
                              refine d_y 6 ha534 rfl rfl (fun _ => (m533.to ⟨.inl rfl, trivial⟩)) (by kernel_rfl) (by kernel_rfl) (by kernel_rfl) (by rfl) (fun _ _ _ h => h) (fun W => y_add ha534 rfl rfl (r := nb) (by rw [← hnb]; exact IntWalk.i64_in _ (by omega))) ?_
                              clear ha534 a534; intro a535 ha535
                              refine d_y 13 ha535 rfl rfl (fun _ => (m533.to ⟨.inl rfl, trivial⟩)) (by kernel_rfl) (by kernel_rfl) (by kernel_rfl) (by rfl) (fun _ _ _ h => h) (fun W => y_build ha535 rfl zc28lp fl28lp rfl (by dsimp only [setL, List.set] <;> rfl)) ?_
                              clear ha535 a535; intro a536 ha536
                              refine stepE_end 15 rfl (by kernel_rfl) rfl (by rfl) (fun K hK => ?_)
                              refine e_storeW ha536 m533 500 rfl rfl rfl rfl rfl sz28lp ?_
                              clear m533; intro w537 m537 hB537
                              clear hB537
                              refine hK _ _ ?_; clear hK K
                              refine wpAnyE_done (by kernel_rfl) ?_ _
                              have m538 := m537.freezeN 501 rfl; clear m537
                              exact hC49 _ _ ⟨nb, _, _, _, by omega, by omega, ha536.only [2, 9, 10, 11, 12, 27], m538.ren [(11, 11), (12, 12), (13, 13), (14, 14), (21, 21), (22, 22), (23, 23), (24, 24), (5, 5), (6, 6), (7, 7), (8, 501), (9, 500)] (by decide)⟩
                        · skip
                          clear ha454
                          try simp only [decide_eq_true_eq, decide_eq_false_iff_not, Bool.not_eq_true, Bool.not_eq_false, Bool.not_eq_eq_eq_not, Bool.not_true, Bool.not_false, Bool.not_not, Int.not_lt, Int.not_le, ne_eq, Decidable.not_not] at hb455
                          refine wp_cond_false (ha455.ev (x := .tmp 96) rfl) ?_
                          refine wp_skip ?_
                          exact hC20 _ _ ⟨bi, bt, cf, d, es, _, _, _, _, _, _, _, _, _, _, _, _, _, _, _, _, _, (hst.up (by omega)), ha455.only [2, 9, 10, 11, 12], m335.only [11, 12, 13, 14, 21, 22, 23, 24, 5, 6, 7]⟩
                  refine wp_seq_k (fun K51 hK51 => ?_)
                  have hC51 : ∀ (a : Act) (w : World), (∃ (bb : Bool), Has 294 [(2, .slice p5 acts.length c5), (9, .pointer (some ⟨BB, 0, none⟩)), (10, .pointer (some ⟨CC, 0, none⟩)), (11, .int .i64 (i : Int)), (12, .pointer (some ⟨D6, 0, none⟩)), (92, .int .u8 (xw.tmod 8)), (221, .bool bb)] a ∧ MemOk (cx (fun _ => True) w0) w0 [(11, .box BB 56 [.int .i64 bi, .int .i64 bt, .slice pc1 cf.length cc1, .slice pd1 d.length cd1, .slice pl1 (es.map entD).length cl1]), (12, .seg (.slice pl1 (es.map entD).length cl1) 32 4 (es.map entD)), (13, .dat (.slice pc1 cf.length cc1) (.ns .i64 cf)), (14, .dat (.slice pd1 d.length cd1) (.ns .u8 d)), (21, .box CC 41 [.int .i64 bi, .int .i64 bt, .slice pc2 cf.length cc2, .slice pd2 d.length cd2, .slice pl2 (es.map entD).length cl2]), (22, .seg (.slice pl2 (es.map entD).length cl2) 32 4 (es.map entD)), (23, .dat (.slice pc2 cf.length cc2) (.ns .i64 cf)), (24, .dat (.slice pd2 d.length cd2) (.ns .u8 d)), (5, .dat (.slice p5 acts.length c5) (.l 5 (acts.map lactD))), (6, .box D6 39 [.int .u8 xw, .int .u8 xa, .int .u8 xb, .int .u8 xc, .slice pf xl.length cf6]), (7, .dat (.slice pf xl.length cf6) (.ns .u8 xl))] w) → K51 a w := by
                    clear ha107 m106
                    rintro a539 w539 ⟨bb, ha539, m539⟩
                    refine hK51 _ _ ?_; clear hK51; try clear K51
                    refine bool_cases ha539 (t := 221) rfl (fun hb540 ha540 => ?_) (fun hb540 ha540 => ?_)
                    · skip
                      clear ha539
                      try simp only [decide_eq_true_eq, decide_eq_false_iff_not, Bool.not_eq_true, Bool.not_eq_false, Bool.not_eq_eq_eq_not, Bool.not_true, Bool.not_false, Bool.not_not, Int.not_lt, Int.not_le, ne_eq, Decidable.not_not] at hb540
                      refine wp_cond_true (ha540.ev (x := .tmp 221) rfl) ?_
                      refine wp_skip ?_
                      exact hC39 _ _ ⟨_, ha540.only [2, 9, 10, 11, 12, 92, 221], m539.only [11, 12, 13, 14, 21, 22, 23, 24, 5, 6, 7]⟩
                    · skip
                      clear ha539
                      try simp only [decide_eq_true_eq, decide_eq_false_iff_not, Bool.not_eq_true, Bool.not_eq_false, Bool.not_eq_eq_eq_not, Bool.not_true, Bool.not_false, Bool.not_not, Int.not_lt, Int.not_le, ne_eq, Decidable.not_not] at hb540
                      refine wp_cond_false (ha540.ev (x := .tmp 221) rfl) ?_
                      refine wp_region_lit ?_
                      refine st_y ha540 rfl (y_eql ha540 rfl rfl) ?_
                      clear ha540 a539; intro a541 ha541
                      refine st_y ha541 rfl (y_assign ha541 rfl) ?_
                      clear ha541 a541; intro a542 ha542
                      refine wpList_nil ?_
                      exact hC39 _ _ ⟨_, ha542.only [2, 9, 10, 11, 12, 92, 221], m539.only [11, 12, 13, 14, 21, 22, 23, 24, 5, 6, 7]⟩
                  refine wp_region_lit ?_
                  refine st_y ha107 rfl (y_eql ha107 rfl rfl) ?_
                  clear ha107 a106; intro a543 ha543
                  refine st_y ha543 rfl (y_assign ha543 rfl) ?_
                  clear ha543 a543; intro a544 ha544
                  refine wpList_nil ?_
                  exact hC51 _ _ ⟨_, ha544.only [2, 9, 10, 11, 12, 92, 221], m106.only [11, 12, 13, 14, 21, 22, 23, 24, 5, 6, 7]⟩
              refine wp_seq_k (fun K52 hK52 => ?_)
              have hC52 : ∀ (a : Act) (w : World), (∃ (bb : Bool), Has 294 [(2, .slice p5 acts.length c5), (9, .pointer (some ⟨BB, 0, none⟩)), (10, .pointer (some ⟨CC, 0, none⟩)), (11, .int .i64 (i : Int)), (12, .pointer (some ⟨D6, 0, none⟩)), (92, .int .u8 (xw.tmod 8)), (117, .bool bb)] a ∧ MemOk (cx (fun _ => True) w0) w0 [(11, .box BB 56 [.int .i64 bi, .int .i64 bt, .slice pc1 cf.length cc1, .slice pd1 d.length cd1, .slice pl1 (es.map entD).length cl1]), (12, .seg (.slice pl1 (es.map entD).length cl1) 32 4 (es.map entD)), (13, .dat (.slice pc1 cf.length cc1) (.ns .i64 cf)), (14, .dat (.slice pd1 d.length cd1) (.ns .u8 d)), (21, .box CC 41 [.int .i64 bi, .int .i64 bt, .slice pc2 cf.length cc2, .slice pd2 d.length cd2, .slice pl2 (es.map entD).length cl2]), (22, .seg (.slice pl2 (es.map entD).length cl2) 32 4 (es.map entD)), (23, .dat (.slice pc2 cf.length cc2) (.ns .i64 cf)), (24, .dat (.slice pd2 d.length cd2) (.ns .u8 d)), (5, .dat (.slice p5 acts.length c5) (.l 5 (acts.map lactD))), (6, .box D6 39 [.int .u8 xw, .int .u8 xa, .int .u8 xb, .int .u8 xc, .slice pf xl.length cf6]), (7, .dat (.slice pf xl.length cf6) (.ns .u8 xl))] w) → K52 a w := by
                clear ha105 m88
                rintro a545 w545 ⟨bb, ha545, m545⟩
                refine hK52 _ _ ?_; clear hK52; try clear K52
                refine bool_cases ha545 (t := 117) rfl (fun hb546 ha546 => ?_) (fun hb546 ha546 => ?_)
                · skip
                  clear ha545
                  try simp only [decide_eq_true_eq, decide_eq_false_iff_not, Bool.not_eq_true, Bool.not_eq_false, Bool.not_eq_eq_eq_not, Bool.not_true, Bool.not_false, Bool.not_not, Int.not_lt, Int.not_le, ne_eq, Decidable.not_not] at hb546
                  refine wp_cond_true (ha546.ev (x := .tmp 117) rfl) ?_
                  refine wp_skip ?_
                  exact hC23 _ _ ⟨_, ha546.only [2, 9, 10, 11, 12, 92, 117], m545.only [11, 12, 13, 14, 21, 22, 23, 24, 5, 6, 7]⟩
                · skip
                  clear ha545
                  try simp only [decide_eq_true_eq, decide_eq_false_iff_not, Bool.not_eq_true, Bool.not_eq_false, Bool.not_eq_eq_eq_not, Bool.not_true, Bool.not_false, Bool.not_not, Int.not_lt, Int.not_le, ne_eq, Decidable.not_not] at hb546
                  refine wp_cond_false (ha546.ev (x := .tmp 117) rfl) ?_
                  refine wp_seq_k (fun K53 hK53 => ?_)
                  have hC53 : ∀ (a : Act) (w : World), (∃ (bb : Bool), Has 294 [(2, .slice p5 acts.length c5), (9, .pointer (some ⟨BB, 0, none⟩)), (10, .pointer (some ⟨CC, 0, none⟩)), (11, .int .i64 (i : Int)), (12, .pointer (some ⟨D6, 0, none⟩)), (92, .int .u8 (xw.tmod 8)), (117, .bool bb)] a ∧ MemOk (cx (fun _ => True) w0) w0 [(11, .box BB 56 [.int .i64 bi, .int .i64 bt, .slice pc1 cf.length cc1, .slice pd1 d.length cd1, .slice pl1 (es.map entD).length cl1]), (12, .seg (.slice pl1 (es.map entD).length cl1) 32 4 (es.map entD)), (13, .dat (.slice pc1 cf.length cc1) (.ns .i64 cf)), (14, .dat (.slice pd1 d.length cd1) (.ns .u8 d)), (21, .box CC 41 [.int .i64 bi, .int .i64 bt, .slice pc2 cf.length cc2, .slice pd2 d.length cd2, .slice pl2 (es.map entD).length cl2]), (22, .seg (.slice pl2 (es.map entD).length cl2) 32 4 (es.map entD)), (23, .dat (.slice pc2 cf.length cc2) (.ns .i64 cf)), (24, .dat (.slice pd2 d.length cd2) (.ns .u8 d)), (5, .dat (.slice p5 acts.length c5) (.l 5 (acts.map lactD))), (6, .box D6 39 [.int .u8 xw, .int .u8 xa, .int .u8 xb, .int .u8 xc, .slice pf xl.length cf6]), (7, .dat (.slice pf xl.length cf6) (.ns .u8 xl))] w) → K53 a w := by
                    clear ha546 m545
                    rintro a547 w547 ⟨bb, ha547, m547⟩
                    refine hK53 _ _ ?_; clear hK53; try clear K53
                    refine bool_cases ha547 (t := 117) rfl (fun hb548 ha548 => ?_) (fun hb548 ha548 => ?_)
                    · skip
                      clear ha547
                      try simp only [decide_eq_true_eq, decide_eq_false_iff_not, Bool.not_eq_true, Bool.not_eq_false, Bool.not_eq_eq_eq_not, Bool.not_true, Bool.not_false, Bool.not_not, Int.not_lt, Int.not_le, ne_eq, Decidable.not_not] at hb548
                      refine wp_cond_true (ha548.ev (x := .tmp 117) rfl) ?_
                      refine wp_skip ?_
                      exact hC23 _ _ ⟨_, ha548.only [2, 9, 10, 11, 12, 92, 117], m547.only [11, 12, 13, 14, 21, 22, 23, 24, 5, 6, 7]⟩
                    · skip
                      clear ha547
                      try simp only [decide_eq_true_eq, decide_eq_false_iff_not, Bool.not_eq_true, Bool.not_eq_false, Bool.not_eq_eq_eq_not, Bool.not_true, Bool.not_false, Bool.not_not, Int.not_lt, Int.not_le, ne_eq, Decidable.not_not] at hb548
                      refine wp_cond_false (ha548.ev (x := .tmp 117) rfl) ?_
                      refine wp_seq_k (fun K54 hK54 => ?_)
                      have hC54 : ∀ (a : Act) (w : World), (∃ (bb : Bool), Has 294 [(2, .slice p5 acts.length c5), (9, .pointer (some ⟨BB, 0, none⟩)), (10, .pointer (some ⟨CC, 0, none⟩)), (11, .int .i64 (i : Int)), (12, .pointer (some ⟨D6, 0, none⟩)), (92, .int .u8 (xw.tmod 8)), (117, .bool bb)] a ∧ MemOk (cx (fun _ => True) w0) w0 [(11, .box BB 56 [.int .i64 bi, .int .i64 bt, .slice pc1 cf.length cc1, .slice pd1 d.length cd1, .slice pl1 (es.map entD).length cl1]), (12, .seg (.slice pl1 (es.map entD).length cl1) 32 4 (es.map entD)), (13, .dat (.slice pc1 cf.length cc1) (.ns .i64 cf)), (14, .dat (.slice pd1 d.length cd1) (.ns .u8 d)), (21, .box CC 41 [.int .i64 bi, .int .i64 bt, .slice pc2 cf.length cc2, .slice pd2 d.length cd2, .slice pl2 (es.map entD).length cl2]), (22, .seg (.slice pl2 (es.map entD).length cl2) 32 4 (es.map entD)), (23, .dat (.slice pc2 cf.length cc2) (.ns .i64 cf)), (24, .dat (.slice pd2 d.length cd2) (.ns .u8 d)), (5, .dat (.slice p5 acts.length c5) (.l 5 (acts.map lactD))), (6, .box D6 39 [.int .u8 xw, .int .u8 xa, .int .u8 xb, .int .u8 xc, .slice pf xl.length cf6]), (7, .dat (.slice pf xl.length cf6) (.ns .u8 xl))] w) → K54 a w := by
                        clear ha548 m547
                        rintro a549 w549 ⟨bb, ha549, m549⟩
                        refine hK54 _ _ ?_; clear hK54; try clear K54
                        refine bool_cases ha549 (t := 117) rfl (fun hb550 ha550 => ?_) (fun hb550 ha550 => ?_)
                        · skip
                          clear ha549
                          try simp only [decide_eq_true_eq, decide_eq_false_iff_not, Bool.not_eq_true, Bool.not_eq_false, Bool.not_eq_eq_eq_not, Bool.not_true, Bool.not_false, Bool.not_not, Int.not_lt, Int.not_le, ne_eq, Decidable.not_not] at hb550
                          refine wp_cond_true (ha550.ev (x := .tmp 117) rfl) ?_
                          refine wp_skip ?_
                          exact hC23 _ _ ⟨_, ha550.only [2, 9, 10, 11, 12, 92, 117], m549.only [11, 12, 13, 14, 21, 22, 23, 24, 5, 6, 7]⟩
                        · skip
                          clear ha549
                          try simp only [decide_eq_true_eq, decide_eq_false_iff_not, Bool.not_eq_true, Bool.not_eq_false, Bool.not_eq_eq_eq_not, Bool.not_true, Bool.not_false, Bool.not_not, Int.not_lt, Int.not_le, ne_eq, Decidable.not_not] at hb550
                          refine wp_cond_false (ha550.ev (x := .tmp 117) rfl) ?_
                          refine wp_region_lit ?_
                          refine st_y ha550 rfl (y_eql ha550 rfl rfl) ?_
                          clear ha550 a549; intro a551 ha551
                          refine st_y ha551 rfl (y_assign ha551 rfl) ?_
                          clear ha551 a551; intro a552 ha552
                          refine wpList_nil ?_
                          exact hC23 _ _ ⟨_, ha552.only [2, 9, 10, 11, 12, 92, 117], m549.only [11, 12, 13, 14, 21, 22, 23, 24, 5, 6, 7]⟩
                      refine wp_region_lit ?_
                      refine st_y ha548 rfl (y_eql ha548 rfl rfl) ?_
                      clear ha548 a547; intro a553 ha553
                      refine st_y ha553 rfl (y_assign ha553 rfl) ?_
                      clear ha553 a553; intro a554 ha554
                      refine wpList_nil ?_
                      exact hC54 _ _ ⟨_, ha554.only [2, 9, 10, 11, 12, 92, 117], m547.only [11, 12, 13, 14, 21, 22, 23, 24, 5, 6, 7]⟩
                  refine wp_region_lit ?_
                  refine st_y ha546 rfl (y_eql ha546 rfl rfl) ?_
                  clear ha546 a545; intro a555 ha555
                  refine st_y ha555 rfl (y_assign ha555 rfl) ?_
                  clear ha555 a555; intro a556 ha556
                  refine wpList_nil ?_
                  exact hC53 _ _ ⟨_, ha556.only [2, 9, 10, 11, 12, 92, 117], m545.only [11, 12, 13, 14, 21, 22, 23, 24, 5, 6, 7]⟩
              refine wp_region_lit ?_
              refine st_y ha105 rfl (y_eql ha105 rfl rfl) ?_
              clear ha105 a105; intro a557 ha557
              refine st_y ha557 rfl (y_assign ha557 rfl) ?_
              clear ha557 a557; intro a558 ha558
              refine wpList_nil ?_
              exact hC52 _ _ ⟨_, ha558.only [2, 9, 10, 11, 12, 92, 117], m88.only [11, 12, 13, 14, 21, 22, 23, 24, 5, 6, 7]⟩
            refine wp_seq_k (fun K55 hK55 => ?_)
            have ha559 : Has 294 [(2, _), (9, _), (10, _), (11, _), (12, _)] a86 := ha86.only [2, 9, 10, 11, 12]; clear ha86
            refine wp_region_lit ?_
            refine st_y ha559 rfl (y_fieldAddr ha559 (off := 4) rfl Try.underlying39 rfl (s := 0) (by kernel_rfl) rfl) ?_
            clear ha559 a86; intro a560 ha560
            refine st_y ha560 rfl (y_loadB1 ha560 m87 (i := 202) rfl rfl rfl Try.underlying23 rfl) ?_
            clear ha560 a560; intro a561 ha561
            refine st_y ha561 rfl (y_len ha561 rfl Try.underlying23) ?_
            clear ha561 a561; intro a562 ha562
            refine st_y ha562 rfl (y_gtr ha562 rfl rfl) ?_
            clear ha562 a562; intro a563 ha563
            refine wpList_nil ?_
            refine hK55 _ _ ?_; clear hK55; try clear K55
            refine bool_cases ha563 (t := 89) rfl (fun hb564 ha564 => ?_) (fun hb564 ha564 => ?_)
            · skip
              clear ha563
              try simp only [decide_eq_true_eq, decide_eq_false_iff_not, Bool.not_eq_true, Bool.not_eq_false, Bool.not_eq_eq_eq_not, Bool.not_true, Bool.not_false, Bool.not_not, Int.not_lt, Int.not_le, ne_eq, Decidable.not_not] at hb564
              refine wp_cond_true (ha564.ev (x := .tmp 89) rfl) ?_
              refine wp_seq_k (fun K56 hK56 => ?_)
              refine wp_region_lit ?_
              refine st_y ha564 rfl (y_assign ha564 rfl) ?_
              clear ha564 a563; intro a565 ha565
              refine wpList_nil ?_
              refine hK56 _ _ ?_; clear hK56; try clear K56
              refine wp_ret ?_
              try dsimp only [Exit.then, Exit.inBlock]
              refine (ret1 (fn := Try.f3) ha565 rfl rfl ?_)
              exact ⟨by first | rfl | simp, m87.below⟩
            · skip
              clear ha563
              try simp only [decide_eq_true_eq, decide_eq_false_iff_not, Bool.not_eq_true, Bool.not_eq_false, Bool.not_eq_eq_eq_not, Bool.not_true, Bool.not_false, Bool.not_not, Int.not_lt, Int.not_le, ne_eq, Decidable.not_not] at hb564
              have hxl6 : xl.length ≤ 6 := by omega
              refine wp_cond_false (ha564.ev (x := .tmp 89) rfl) ?_
              refine wp_skip ?_
              exact hC19 _ _ ⟨_, _, _, _, _, _, _, _, _, _, _, _, _, _, _, _, _, by omega, ha564.only [2, 9, 10, 11, 12], m87.ren [(11, 11), (12, 12), (13, 13), (14, 14), (21, 21), (22, 22), (23, 23), (24, 24), (5, 5), (6, 202), (7, 201)] (by decide)⟩
          · skip
            clear ha77
            try simp only [decide_eq_true_eq, decide_eq_false_iff_not, Bool.not_eq_true, Bool.not_eq_false, Bool.not_eq_eq_eq_not, Bool.not_true, Bool.not_false, Bool.not_not, Int.not_lt, Int.not_le, ne_eq, Decidable.not_not] at hb78
            obtain rfl : i = acts.length := by omega
            refine wp_cond_false (ha78.ev (x := .tmp 79) rfl) ?_
            refine wp_exit ?_
            refine hK13 _ _ ?_; clear hK13; try clear K13
            refine wp_seq_k (fun K57 hK57 => ?_)
            refine wp_region_lit ?_
            refine st_y ha78 rfl (y_assign ha78 rfl) ?_
            clear ha78 a77; intro a566 ha566
            refine wpList_nil ?_
            refine hK57 _ _ ?_; clear hK57; try clear K57
            refine wp_ret ?_
            try dsimp only [Exit.then, Exit.inBlock]
            refine (ret1 (fn := Try.f3) ha566 rfl rfl ?_)
            exact ⟨by first | rfl | simp, m73.below⟩
      refine wp_seq_k (fun K58 hK58 => ?_)
      have ha567 : Has 294 [(0, _), (2, _), (6, _), (7, _), (8, _)] a46 := ha46.only [0, 2, 6, 7, 8]; clear ha46
      refine wp_region_lit ?_
      refine st_y ha567 rfl (y_move ha567 rfl) ?_
      clear ha567 a46; intro a568 ha568
      refine st_y ha568 rfl (y_len ha568 rfl Try.underlying29) ?_
      clear ha568 a568; intro a569 ha569
      refine st_y ha569 rfl (y_gtr ha569 rfl rfl) ?_
      clear ha569 a569; intro a570 ha570
      refine st_y ha570 rfl (y_move ha570 rfl) ?_
      clear ha570 a570; intro a571 ha571
      refine bool_cases ha571 (t := 54) rfl (fun hb572 ha572 => ?_) (fun hb572 ha572 => ?_)
      · skip
        clear ha571
        try simp only [decide_eq_true_eq, decide_eq_false_iff_not, Bool.not_eq_true, Bool.not_eq_false, Bool.not_eq_eq_eq_not, Bool.not_true, Bool.not_false, Bool.not_not, Int.not_lt, Int.not_le, ne_eq, Decidable.not_not] at hb572
        obtain ⟨⟨ei, et, ek, ed⟩, hei⟩ : ∃ e, es0[3]? = some e := ⟨_, List.getElem?_eq_getElem (by rw [List.length_map] at hb572; omega)⟩
        have heix : ei = bi0 + 1 + 3 := by have := seq_ents (bi0 + 1) first 3 (by rw [entsN_len]; rw [List.length_map] at hb572; omega); rw [hes0, List.getD, hei] at this; have h9 : ei = bi0 + 1 - 1 + 1 + ((3 : Nat) : Int) := this; omega
        refine st_g ha572 rfl rfl rfl rfl (y_move ha572 rfl) ?_
        clear ha572 a571; intro a573 ha573
        refine st_g ha573 rfl rfl rfl rfl (y_rem ha573 rfl rfl (by decide) rfl) ?_
        clear ha573 a573; intro a574 ha574
        refine st_g ha574 rfl rfl rfl rfl (y_eql ha574 rfl rfl) ?_
        clear ha574 a574; intro a575 ha575
        refine st_y ha575 rfl (y_pickT ha575 rfl rfl) ?_
        clear ha575 a575; intro a576 ha576
        refine wpList_nil ?_
        refine hK58 _ _ ?_; clear hK58; try clear K58
        refine bool_cases ha576 (t := 58) rfl (fun hb577 ha577 => ?_) (fun hb577 ha577 => ?_)
        · skip
          clear ha576
          try simp only [decide_eq_true_eq, decide_eq_false_iff_not, Bool.not_eq_true, Bool.not_eq_false, Bool.not_eq_eq_eq_not, Bool.not_true, Bool.not_false, Bool.not_not, Int.not_lt, Int.not_le, ne_eq, Decidable.not_not] at hb577
          refine wp_cond_true (ha577.ev (x := .tmp 58) rfl) ?_
          have ha578 : Has 294 [(2, _), (6, _), (7, _), (8, _), (58, _)] a576 := ha577.only [2, 6, 7, 8, 58]; clear ha577
          refine wp_region_lit ?_
          refine st_y ha578 rfl (y_move ha578 rfl) ?_
          clear ha578 a576; intro a579 ha579
          obtain ⟨gs580, os580, vs580, hp580, hl580, hR580, hrg580⟩ := m44.openS (i := 62) rfl (3) (r := [.v (.int .i64 ei), .v (.int .i64 et), .v (.int .i64 ek), .ns .u8 ed]) (ent_get hei)
          cases hp580; clear hl580 hR580 hrg580 vs580
          refine st_y ha579 rfl (y_idx ha579 rfl rfl Try.underlying29 sz32lp (3) rfl (by rw [List.length_map]; have := (List.getElem?_eq_some_iff.1 hei).1; omega)) ?_
          clear ha579 a579; intro a581 ha581
          refine st_y ha581 rfl (y_fieldAddrQ ha581 0 rfl Try.underlying32 rfl (s := 0) (by kernel_rfl) rfl) ?_
          clear ha581 a581; intro a582 ha582
          refine st_y ha582 rfl (y_loadSV ha582 m44 (i := 62) rfl (3) (r := [.v (.int .i64 ei), .v (.int .i64 et), .v (.int .i64 ek), .ns .u8 ed]) (ent_get hei) (q := 0) rfl rfl rfl Try.underlying3 rfl) ?_
          clear ha582 a582; intro a583 ha583
          refine st_y ha583 rfl (y_add ha583 rfl rfl (r := ei + 1) (IntWalk.i64_in _ (by omega))) ?_
          clear ha583 a583; intro a584 ha584
          obtain ⟨gs585, os585, vs585, hp585, hl585, hR585, hrg585⟩ := m44.openS (i := 62) rfl (3) (r := [.v (.int .i64 ei), .v (.int .i64 et), .v (.int .i64 ek), .ns .u8 ed]) (ent_get hei)
          cases hp585; clear hl585 hR585 hrg585 vs585
          refine st_y ha584 rfl (y_idx ha584 rfl rfl Try.underlying29 sz32lp (3) rfl (by rw [List.length_map]; have := (List.getElem?_eq_some_iff.1 hei).1; omega)) ?_
          clear ha584 a584; intro a586 ha586
          refine st_y ha586 rfl (y_fieldAddrQ ha586 0 rfl Try.underlying32 rfl (s := 0) (by kernel_rfl) rfl) ?_
          clear ha586 a586; intro a587 ha587
          refine wpList_plain rfl (fun K hK => ?_)
          refine e_storeSV ha587 m44 62 rfl (3) (r := [.v (.int .i64 ei), .v (.int .i64 et), .v (.int .i64 ek), .ns .u8 ed]) (ent_get hei) (q := 0) rfl rfl rfl rfl rfl sz3lp ?_
          clear m44; intro w588 m588 
          refine hK _ _ ?_; clear hK K
          have hset : (es0.map entD).set 3 ([D.v (.int .i64 ei), .v (.int .i64 et), .v (.int .i64 ek), .ns .u8 ed].set 0 (.v (.int .i64 (ei + 1)))) = (es0.set 3 (ei + 1, et, ek, ed)).map entD := by rw [List.map_set]; rfl
          rw [hset] at m588
          refine wpList_nil ?_
          have m589 := m588.freezeN 60 rfl; clear m588
          have m590 := m589.freezeS 62 rfl (by simp [cx]); clear m589
          rw [show (List.map entD es0).length = (List.map entD (es0.set 3 (ei + 1, et, ek, ed))).length from by simp] at ha587 m590
          exact hC9 _ _ ⟨(es0.set 3 (ei + 1, et, ek, ed)), _, _, _, _, _, _, _, (by rw [List.length_set]; omega), (eg_set heg0 (heg0 _ (List.mem_of_getElem? hei))), ha587.only [2, 7, 8], m590.ren [(5, 5), (7, 61), (6, 60), (8, 62)] (by decide)⟩
        · skip
          clear ha576
          try simp only [decide_eq_true_eq, decide_eq_false_iff_not, Bool.not_eq_true, Bool.not_eq_false, Bool.not_eq_eq_eq_not, Bool.not_true, Bool.not_false, Bool.not_not, Int.not_lt, Int.not_le, ne_eq, Decidable.not_not] at hb577
          refine wp_cond_false (ha577.ev (x := .tmp 58) rfl) ?_
          refine wp_skip ?_
          have m591 := m44.freezeN 60 rfl; clear m44
          have m592 := m591.freezeS 62 rfl (by simp [cx]); clear m591
          exact hC9 _ _ ⟨es0, _, _, _, _, _, _, _, (by omega), heg0, ha577.only [2, 7, 8], m592.ren [(5, 5), (7, 61), (6, 60), (8, 62)] (by decide)⟩
      · skip
        clear ha571
        try simp only [decide_eq_true_eq, decide_eq_false_iff_not, Bool.not_eq_true, Bool.not_eq_false, Bool.not_eq_eq_eq_not, Bool.not_true, Bool.not_false, Bool.not_not, Int.not_lt, Int.not_le, ne_eq, Decidable.not_not] at hb572
        refine st_skip ha572 rfl rfl rfl rfl ?_
        clear ha572 a571; intro a593 ha593
        refine st_skip ha593 rfl rfl rfl rfl ?_
        clear ha593 a593; intro a594 ha594
        refine st_skip ha594 rfl rfl rfl rfl ?_
        clear ha594 a594; intro a595 ha595
        refine st_y ha595 rfl (y_pickF ha595 rfl rfl) ?_
        clear ha595 a595; intro a596 ha596
        refine wpList_nil ?_
        refine hK58 _ _ ?_; clear hK58; try clear K58
        refine wp_cond_false (ha596.ev (x := .tmp 58) rfl) ?_
        refine wp_skip ?_
        have m597 := m44.freezeN 60 rfl; clear m44
        have m598 := m597.freezeS 62 rfl (by simp [cx]); clear m597
        exact hC9 _ _ ⟨es0, _, _, _, _, _, _, _, (by omega), heg0, ha596.only [2, 7, 8], m598.ren [(5, 5), (7, 61), (6, 60), (8, 62)] (by decide)⟩
end Go.Proofs.Ytmdckdhogbbhlaa.K
