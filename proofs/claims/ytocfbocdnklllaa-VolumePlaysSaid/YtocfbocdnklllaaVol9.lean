/- VolumeForms and its like: known. -/
import Derived.Test.YtocfbocdnklllaaVol8
namespace Go.Proofs.Ytocfbocdnklllaa.K
open Go.ChangeShapes Go.WideShapes Go.ChangeAt Go.RowKit
set_option linter.unusedVariables false
set_option linter.unusedSimpArgs false

theorem fl25kn : flatS Try.prog 25 [.int .i64 0, .int .i64 0, .int .i64 0, .int .i64 0, .int .i64 0, .slice none 0 0, .int .i64 0, .int .i64 0, .int .i64 0, .slice none 0 0] = true := by kernel_rfl
theorem fl67kn : flatS Try.prog 67 [.int .i64 0, .slice none 0 0] = true := by kernel_rfl
theorem inf3kn : (Try.prog.info? 3).map (fun i => (i.zero, i.size, i.bytes)) = some (some (.int .i64 0), 1, 8) := by kernel_rfl
theorem inf5kn : (Try.prog.info? 5).map (fun i => (i.zero, i.size, i.bytes)) = some (some (.int .u8 0), 1, 1) := by kernel_rfl
theorem inf67kn : (Try.prog.info? 67).map (fun i => (i.zero, i.size, i.bytes)) = some (some (.agg #[.int .i64 0, .slice none 0 0]), 2, 32) := by kernel_rfl
theorem sz34kn : (Try.prog.info? 34).map (·.size) = some 11 := by kernel_rfl
theorem sz43kn : (Try.prog.info? 43).map (·.size) = some 1 := by kernel_rfl
theorem sz45kn : (Try.prog.info? 45).map (·.size) = some 5 := by kernel_rfl
theorem sz55kn : (Try.prog.info? 55).map (·.size) = some 2 := by kernel_rfl
theorem sz67kn : (Try.prog.info? 67).map (·.size) = some 2 := by kernel_rfl
theorem sz73kn : (Try.prog.info? 73).map (·.size) = some 8 := by kernel_rfl
theorem zc25kn : ((Try.prog.info? 25).bind (·.zero)).map (·.cells.toList) = some [.int .i64 0, .int .i64 0, .int .i64 0, .int .i64 0, .int .i64 0, .slice none 0 0, .int .i64 0, .int .i64 0, .int .i64 0, .slice none 0 0] := by kernel_rfl
theorem zc34kn : ((Try.prog.info? 34).bind (·.zero)).map (·.cells.toList) = some [.int .i64 0, .int .i64 0, .int .i64 0, .int .i64 0, .slice none 0 0, .int .i64 0, .int .i64 0, .bool false, .int .i64 0, .slice none 0 0, .slice none 0 0] := by kernel_rfl
theorem zc45kn : ((Try.prog.info? 45).bind (·.zero)).map (·.cells.toList) = some [.int .i64 0, .int .i64 0, .int .i64 0, .int .i64 0, .slice none 0 0] := by kernel_rfl
theorem zc67kn : ((Try.prog.info? 67).bind (·.zero)).map (·.cells.toList) = some [.int .i64 0, .slice none 0 0] := by kernel_rfl
theorem zc73kn : ((Try.prog.info? 73).bind (·.zero)).map (·.cells.toList) = some [.int .i64 0, .int .i64 0, .int .i64 0, .int .i64 0, .int .i64 0, .int .i64 0, .int .i64 0, .slice none 0 0] := by kernel_rfl

theorem new3 : NewOk 0 3 1 2 0 [1, 2] := by unfold NewOk PlaceOk; simp
theorem new0 : ¬ NewOk 0 0 0 0 0 [] := by unfold NewOk; omega
theorem items1 : ItemsR 3 1 [(2, [120])] := by
 refine ⟨by decide, by decide, fun j hj => ?_⟩
 obtain rfl : j = 0 := by simpa using hj
 simp
theorem items1o : ItsOk [(2, [120])] := fun e he => by simp at he; subst he; decide
theorem wrs1o : WrsOk [(1, [(2, [120])])] := fun e he => by simp at he; subst he; exact ⟨by decide, items1o⟩
theorem vol1 : VolR 0 3 1 2 0 0 0 false [1, 2] [] [(1, [(2, [120])])] := ⟨new3, by decide, by decide, by simp, by simp, by decide, by decide, fun j hj => by simp at hj, fun j hj => by
 obtain rfl : j = 0 := by simpa using hj
 exact ⟨by simp, items1⟩⟩
set_option maxRecDepth 100000
set_option maxHeartbeats 4000000
theorem vknown_any (w0 : World) : Calls Try.prog 9 #[] w0 fun e w' => e = .returned (.bool true) ∧ Below w0.heap.size w0 w' := by
 refine enter (fn := Try.f9) Try.func9 rfl Try.ntmps9 rfl (fun a0 ha0 => ?_)
 simp only [List.zipIdx_cons, List.zipIdx_nil, List.map_cons, List.map_nil, Nat.reduceAdd, Nat.zero_add] at ha0
 have m0 := MemOk.start (fun _ => False) w0
 refine wp_seq_k (fun K0 hK0 => ?_)
 refine wp_region_lit ?_
 refine st_y ha0 rfl (y_assign ha0 rfl) ?_
 clear ha0 a0; intro a1 ha1
 refine wpList_nil ?_
 refine hK0 _ _ ?_; clear hK0; try clear K0
 refine wp_seq_k (fun K1 hK1 => ?_)
 refine wp_region_lit ?_
 refine wpList_plain rfl (fun K hK => ?_)
 refine e_litN ha1 m0 20 (k := .i64) rfl rfl Try.underlying22 inf3kn rfl rfl rfl rfl ?_
 clear ha1 a1 m0; intro g2 a3 w3 ha3 m3
 refine hK _ _ ?_; clear hK K
 refine st_y ha3 rfl (y_build ha3 rfl zc25kn fl25kn rfl (by dsimp only [setL, List.set] <;> rfl)) ?_
 clear ha3 a3; intro a4 ha4
 have m5 := m3.freezeN 20 rfl; clear m3
 refine wpList_plain rfl (fun K hK => ?_)
 refine e_call ha4 Try.func11 rfl rfl rfl rfl (vnew_yes _ 0 3 1 2 0 _ _ [1, 2] _ _ _ _ _ _ ((m5.rd (i := 20) rfl).any) (by decide) new3) ?_
 rintro e w6 ⟨p6, c6, rfl, hd6, hb6⟩
 have m7 := m5.callF 21 rfl hb6 hd6
 clear m5
 clear hb6 hd6
 refine ⟨_, rfl, fun a8 ha8 => ?_⟩; clear ha4 a4
 refine hK _ _ ?_; clear hK K
 refine st_y ha8 rfl (y_move ha8 rfl) ?_
 clear ha8 a8; intro a9 ha9
 refine st_y ha9 rfl (y_extract ha9 rfl rfl) ?_
 clear ha9 a9; intro a10 ha10
 refine st_y ha10 rfl (y_extract ha10 rfl rfl) ?_
 clear ha10 a10; intro a11 ha11
 refine wpList_plain rfl (fun K hK => ?_)
 refine e_alloc ha11 m7 22 zc34kn rfl ?_
 clear ha11 a11 m7; intro g12 a13 w13 ha13 m13 hB13 hg13
 clear hB13 hg13
 refine hK _ _ ?_; clear hK K
 refine wpList_plain rfl (fun K hK => ?_)
 refine e_storeW ha13 m13 22 rfl rfl rfl rfl rfl sz34kn ?_
 clear m13; intro w14 m14 hB14
 clear hB14
 refine hK _ _ ?_; clear hK K
 refine st_y ha13 rfl (y_assign ha13 rfl) ?_
 clear ha13 a13; intro a15 ha15
 refine wpList_nil ?_
 refine hK1 _ _ ?_; clear hK1; try clear K1
 refine wp_seq_k (fun K2 hK2 => ?_)
 have ha16 : Has 124 [(0, _), (1, _), (2, _)] a15 := ha15.only [0, 1, 2]; clear ha15
 refine wp_region_lit ?_
 refine st_y ha16 rfl (y_loadBR ha16 m14 (i := 22) rfl rfl Try.underlying34 rfl sz34kn (by simp) (by dsimp only [List.drop, List.take] <;> rfl)) ?_
 clear ha16 a15; intro a17 ha17
 refine st_const ha17 m14 23 rfl rfl Try.underlying43 Try.underlying5 inf5kn rfl rfl rfl rfl rfl ?_
 clear ha17 a17 m14; intro g18 a18 w18 ha18 m18
 refine st_y ha18 rfl (y_build ha18 rfl zc67kn fl67kn rfl (by dsimp only [setL, List.set] <;> rfl)) ?_
 clear ha18 a18; intro a19 ha19
 refine wpList_plain rfl (fun K hK => ?_)
 refine e_litR ha19 m18 24 (mm := 2) rfl (.cons rfl rfl (.cons (.v _) (.cons (m18.rd (i := 23) rfl) .nil)) <| .nil) Try.underlying23 inf67kn rfl rfl rfl rfl rfl ?_
 clear ha19 a19 m18; intro g20 a21 w21 ha21 m21
 refine hK _ _ ?_; clear hK K
 refine st_y ha21 rfl (y_build ha21 rfl zc25kn fl25kn rfl (by dsimp only [setL, List.set] <;> rfl)) ?_
 clear ha21 a21; intro a22 ha22
 have m23 := m21.freezeR 24 rfl; clear m21
 have m24 := m23.dat 25 rfl (Rd.nilN _ _ .i64 none); clear m23
 have m25 := m24.dat 26 rfl (Rd.l0 none 0 2); clear m24
 have m26 := m25.dat 30 rfl (m25.rd (i := 21) rfl); clear m25
 refine wpList_plain rfl (fun K hK => ?_)
 refine e_call ha22 Try.func16 rfl rfl rfl rfl (vDo_put _ 0 3 1 2 0 0 0 [1, 2] [] [] [(2, [120])] _ _ _ _ _ _ _ _ _ _ _ _ _ _ _ _ _ _ _ (by decide) (by decide) (by decide) items1 items1o (fun _ h => by cases h) (m26.into [(1, 30), (2, 25), (3, 26), (4, 24)] (by decide) rfl)) ?_
 rintro e w27 ⟨p127, c127, p227, c227, p327, c327, rfl, hm27⟩
 have mx27 := m26.back hm27 [(30, 1), (25, 2), (26, 3), (24, 4), (27, 5), (28, 6), (29, 7)] (by decide); clear hm27 m26
 have m27 : MemOk _ _ [(30, _), (25, _), (26, _), (24, _), (27, _), (28, _), (29, _), (20, _), (21, _), (22, _), (23, _)] _ := mx27.only [30, 25, 26, 24, 27, 28, 29, 20, 21, 22, 23]; clear mx27
 refine ⟨_, rfl, fun a28 ha28 => ?_⟩; clear ha22 a22
 refine hK _ _ ?_; clear hK K
 have m29 := m27.freezeS 29 rfl (by simp [cx]); clear m27
 refine st_y ha28 rfl (y_move ha28 rfl) ?_
 clear ha28 a28; intro a30 ha30
 refine st_y ha30 rfl (y_extract ha30 rfl rfl) ?_
 clear ha30 a30; intro a31 ha31
 refine st_y ha31 rfl (y_extract ha31 rfl rfl) ?_
 clear ha31 a31; intro a32 ha32
 refine wpList_plain rfl (fun K hK => ?_)
 refine e_alloc ha32 m29 31 zc34kn rfl ?_
 clear ha32 a32 m29; intro g33 a34 w34 ha34 m34 hB34 hg34
 clear hB34 hg34
 refine hK _ _ ?_; clear hK K
 refine wpList_plain rfl (fun K hK => ?_)
 refine e_alloc ha34 m34 32 zc45kn rfl ?_
 clear ha34 a34 m34; intro g35 a36 w36 ha36 m36 hB36 hg36
 clear hB36 hg36
 refine hK _ _ ?_; clear hK K
 refine wpList_plain rfl (fun K hK => ?_)
 refine e_storeW ha36 m36 31 rfl rfl rfl rfl rfl sz34kn ?_
 clear m36; intro w37 m37 hB37
 clear hB37
 refine hK _ _ ?_; clear hK K
 refine wpList_plain rfl (fun K hK => ?_)
 refine e_storeW ha36 m37 32 rfl rfl rfl rfl rfl sz45kn ?_
 clear m37; intro w38 m38 hB38
 clear hB38
 refine hK _ _ ?_; clear hK K
 refine wpList_nil ?_
 refine hK2 _ _ ?_; clear hK2; try clear K2
 refine wp_seq_k (fun K3 hK3 => ?_)
 have ha39 : Has 124 [(0, _), (2, _), (3, _), (4, _)] a36 := ha36.only [0, 2, 3, 4]; clear ha36
 refine wp_region_lit ?_
 refine st_y ha39 rfl (y_loadBR ha39 m38 (i := 31) rfl rfl Try.underlying34 rfl sz34kn (by simp) (by dsimp only [List.drop, List.take] <;> rfl)) ?_
 clear ha39 a36; intro a40 ha40
 refine wpList_plain rfl (fun K hK => ?_)
 refine e_call ha40 Try.func31 rfl rfl rfl rfl (state_any 0 3 1 2 0 0 0 false _ _ _ _ _ _ _ _ [(1, [(2, [120])])] 1 1 3 1 _ ((m38.rd (i := 29) rfl).any) (by decide) wrs1o (by decide) (by decide) rfl rfl rfl) ?_
 rintro e w41 ⟨p41, c41, rfl, hd41, hb41⟩
 have m42 := m38.callF 33 rfl hb41 hd41
 clear m38
 clear hb41 hd41
 refine ⟨_, rfl, fun a43 ha43 => ?_⟩; clear ha40 a40
 refine hK _ _ ?_; clear hK K
 refine st_y ha43 rfl (y_move ha43 rfl) ?_
 clear ha43 a43; intro a44 ha44
 refine st_y ha44 rfl (y_extract ha44 rfl rfl) ?_
 clear ha44 a44; intro a45 ha45
 refine st_y ha45 rfl (y_extract ha45 rfl rfl) ?_
 clear ha45 a45; intro a46 ha46
 refine st_y ha46 rfl (y_assign ha46 rfl) ?_
 clear ha46 a46; intro a47 ha47
 refine st_y ha47 rfl (y_assign ha47 rfl) ?_
 clear ha47 a47; intro a48 ha48
 refine wpList_nil ?_
 refine hK3 _ _ ?_; clear hK3; try clear K3
 refine wp_seq_k (fun K4 hK4 => ?_)
 refine wp_region_lit ?_
 refine st_y ha48 rfl (y_loadBR ha48 m42 (i := 31) rfl rfl Try.underlying34 rfl sz34kn (by simp) (by dsimp only [List.drop, List.take] <;> rfl)) ?_
 clear ha48 a48; intro a49 ha49
 refine wpList_plain rfl (fun K hK => ?_)
 refine e_call ha49 Try.func31 rfl rfl rfl rfl (state_future 0 3 1 2 0 0 0 false _ _ _ _ _ _ _ _ [(1, [(2, [120])])] 2 _ (by decide) (by decide)) ?_
 rintro e w50 ⟨rfl, hb50⟩
 have m51 := m42.later hb50
 clear m42
 clear hb50
 refine ⟨_, rfl, fun a52 ha52 => ?_⟩; clear ha49 a49
 refine hK _ _ ?_; clear hK K
 refine st_y ha52 rfl (y_move ha52 rfl) ?_
 clear ha52 a52; intro a53 ha53
 refine st_y ha53 rfl (y_extract ha53 rfl rfl) ?_
 clear ha53 a53; intro a54 ha54
 refine st_y ha54 rfl (y_extract ha54 rfl rfl) ?_
 clear ha54 a54; intro a55 ha55
 refine st_y ha55 rfl (y_assign ha55 rfl) ?_
 clear ha55 a55; intro a56 ha56
 refine st_y ha56 rfl (y_assign ha56 rfl) ?_
 clear ha56 a56; intro a57 ha57
 refine wpList_nil ?_
 refine hK4 _ _ ?_; clear hK4; try clear K4
 refine wp_seq_k (fun K5 hK5 => ?_)
 have ha58 : Has 124 [(0, _), (2, _), (3, _), (4, _), (5, _), (6, _), (8, _)] a57 := ha57.only [0, 2, 3, 4, 5, 6, 8]; clear ha57
 refine wp_region_lit ?_
 refine st_y ha58 rfl (y_loadBR ha58 m51 (i := 31) rfl rfl Try.underlying34 rfl sz34kn (by simp) (by dsimp only [List.drop, List.take] <;> rfl)) ?_
 clear ha58 a57; intro a59 ha59
 refine wpList_plain rfl (fun K hK => ?_)
 refine e_call ha59 Try.func34 rfl rfl rfl rfl (push_any 0 3 1 2 0 0 0 false _ _ _ _ _ _ _ [1, 2] [(1, [(2, [120])])] 1 2 1 0 1 _ ((m51.rd (i := 29) rfl).any) (by decide) (by decide) wrs1o (by decide) (by decide) rfl (by decide) (by decide) (by decide) rfl) ?_
 rintro e w60 ⟨p60, c60, rfl, hd60, hb60⟩
 have m61 := m51.callF 34 rfl hb60 hd60
 clear m51
 clear hb60 hd60
 refine ⟨_, rfl, fun a62 ha62 => ?_⟩; clear ha59 a59
 refine hK _ _ ?_; clear hK K
 refine st_y ha62 rfl (y_move ha62 rfl) ?_
 clear ha62 a62; intro a63 ha63
 refine st_y ha63 rfl (y_extract ha63 rfl rfl) ?_
 clear ha63 a63; intro a64 ha64
 refine st_y ha64 rfl (y_extract ha64 rfl rfl) ?_
 clear ha64 a64; intro a65 ha65
 refine wpList_plain rfl (fun K hK => ?_)
 refine e_alloc ha65 m61 35 zc73kn rfl ?_
 clear ha65 a65 m61; intro g66 a67 w67 ha67 m67 hB67 hg67
 clear hB67 hg67
 refine hK _ _ ?_; clear hK K
 refine wpList_plain rfl (fun K hK => ?_)
 refine e_storeW ha67 m67 35 rfl rfl rfl rfl rfl sz73kn ?_
 clear m67; intro w68 m68 hB68
 clear hB68
 refine hK _ _ ?_; clear hK K
 refine st_y ha67 rfl (y_assign ha67 rfl) ?_
 clear ha67 a67; intro a69 ha69
 refine wpList_nil ?_
 refine hK5 _ _ ?_; clear hK5; try clear K5
 refine wp_seq_k (fun K6 hK6 => ?_)
 refine wp_region_lit ?_
 refine st_y ha69 rfl (y_build ha69 rfl zc25kn fl25kn rfl (by dsimp only [setL, List.set] <;> rfl)) ?_
 clear ha69 a69; intro a70 ha70
 refine wpList_plain rfl (fun K hK => ?_)
 refine e_call ha70 Try.func11 rfl rfl rfl rfl (vnew_no _ 0 0 0 0 0 _ _ [] _ _ _ _ _ _ (Rd.nilN _ _ .i64 none) (by decide) new0) ?_
 rintro e w71 ⟨rfl, hb71⟩
 have m72 := m68.later hb71
 clear m68
 clear hb71
 refine ⟨_, rfl, fun a73 ha73 => ?_⟩; clear ha70 a70
 refine hK _ _ ?_; clear hK K
 refine st_y ha73 rfl (y_move ha73 rfl) ?_
 clear ha73 a73; intro a74 ha74
 refine st_y ha74 rfl (y_extract ha74 rfl rfl) ?_
 clear ha74 a74; intro a75 ha75
 refine st_y ha75 rfl (y_extract ha75 rfl rfl) ?_
 clear ha75 a75; intro a76 ha76
 refine wpList_plain rfl (fun K hK => ?_)
 refine e_alloc ha76 m72 36 zc34kn rfl ?_
 clear ha76 a76 m72; intro g77 a78 w78 ha78 m78 hB78 hg78
 clear hB78 hg78
 refine hK _ _ ?_; clear hK K
 refine wpList_plain rfl (fun K hK => ?_)
 refine e_storeW ha78 m78 36 rfl rfl rfl rfl rfl sz34kn ?_
 clear m78; intro w79 m79 hB79
 clear hB79
 refine hK _ _ ?_; clear hK K
 refine st_y ha78 rfl (y_assign ha78 rfl) ?_
 clear ha78 a78; intro a80 ha80
 refine wpList_nil ?_
 refine hK6 _ _ ?_; clear hK6; try clear K6
 refine wp_seq_k (fun K7 hK7 => ?_)
 have ha81 : Has 124 [(0, _), (2, _), (3, _), (4, _), (5, _), (6, _), (8, _), (9, _), (10, _), (12, _)] a80 := ha80.only [0, 2, 3, 4, 5, 6, 8, 9, 10, 12]; clear ha80
 refine wp_region_lit ?_
 refine st_y ha81 rfl (y_move ha81 rfl) ?_
 clear ha81 a80; intro a82 ha82
 refine st_y ha82 rfl (y_eql ha82 rfl rfl) ?_
 clear ha82 a82; intro a83 ha83
 refine st_y ha83 rfl (y_move ha83 rfl) ?_
 clear ha83 a83; intro a84 ha84
 refine bool_cases ha84 (t := 51) rfl (fun hb85 ha85 => ?_) (fun hb85 ha85 => ?_)
 rotate_left
 · exact absurd hb85 (by first | decide | (simp; done) | (intro h; revert h; first | decide | (exact fun h => by cases h)))
 clear ha84 hb85
 refine st_g ha85 rfl rfl rfl rfl (y_fieldAddr ha85 (off := 0) rfl Try.underlying45 rfl (s := 0) (by kernel_rfl) rfl) ?_
 clear ha85 a84; intro a86 ha86
 refine st_g ha86 rfl rfl rfl rfl (y_loadB1 ha86 m79 (i := 32) rfl rfl rfl Try.underlying35 rfl) ?_
 clear ha86 a86; intro a87 ha87
 refine st_g ha87 rfl rfl rfl rfl (y_eql ha87 rfl rfl) ?_
 clear ha87 a87; intro a88 ha88
 refine st_y ha88 rfl (y_pickT ha88 rfl rfl) ?_
 clear ha88 a88; intro a89 ha89
 refine st_y ha89 rfl (y_move ha89 rfl) ?_
 clear ha89 a89; intro a90 ha90
 refine bool_cases ha90 (t := 56) rfl (fun hb91 ha91 => ?_) (fun hb91 ha91 => ?_)
 rotate_left
 · exact absurd hb91 (by first | decide | (simp; done) | (intro h; revert h; first | decide | (exact fun h => by cases h)))
 clear ha90 hb91
 refine st_g ha91 rfl rfl rfl rfl (y_fieldAddr ha91 (off := 1) rfl Try.underlying45 rfl (s := 0) (by kernel_rfl) rfl) ?_
 clear ha91 a90; intro a92 ha92
 refine st_g ha92 rfl rfl rfl rfl (y_loadB1 ha92 m79 (i := 32) rfl rfl rfl Try.underlying2 rfl) ?_
 clear ha92 a92; intro a93 ha93
 refine st_g ha93 rfl rfl rfl rfl (y_eql ha93 rfl rfl) ?_
 clear ha93 a93; intro a94 ha94
 refine st_y ha94 rfl (y_pickT ha94 rfl rfl) ?_
 clear ha94 a94; intro a95 ha95
 refine st_y ha95 rfl (y_move ha95 rfl) ?_
 clear ha95 a95; intro a96 ha96
 refine bool_cases ha96 (t := 61) rfl (fun hb97 ha97 => ?_) (fun hb97 ha97 => ?_)
 rotate_left
 · exact absurd hb97 (by first | decide | (simp; done) | (intro h; revert h; first | decide | (exact fun h => by cases h)))
 clear ha96 hb97
 refine st_g ha97 rfl rfl rfl rfl (y_loadBR ha97 m79 (i := 31) rfl rfl Try.underlying34 rfl sz34kn (by simp) (by dsimp only [List.drop, List.take] <;> rfl)) ?_
 clear ha97 a96; intro a98 ha98
 refine st_ge ha98 rfl rfl rfl rfl (fun K hK => ?_)
 refine e_call ha98 Try.func20 rfl rfl rfl rfl (vlen_any _ _ _ _ _ _ _ _ _ _ _ _ _ _ _ _ _ _) ?_
 rintro e w99 ⟨rfl, hb99⟩
 have m100 := m79.later hb99
 clear m79
 clear hb99
 refine ⟨_, rfl, fun a101 ha101 => ?_⟩; clear ha98 a98
 refine hK _ _ ?_; clear hK K
 refine st_g ha101 rfl rfl rfl rfl (y_eql ha101 rfl rfl) ?_
 clear ha101 a101; intro a102 ha102
 refine st_y ha102 rfl (y_pickT ha102 rfl rfl) ?_
 clear ha102 a102; intro a103 ha103
 refine st_y ha103 rfl (y_move ha103 rfl) ?_
 clear ha103 a103; intro a104 ha104
 refine bool_cases ha104 (t := 66) rfl (fun hb105 ha105 => ?_) (fun hb105 ha105 => ?_)
 rotate_left
 · exact absurd hb105 (by first | decide | (simp; done) | (intro h; revert h; first | decide | (exact fun h => by cases h)))
 clear ha104 hb105
 refine st_g ha105 rfl rfl rfl rfl (y_move ha105 rfl) ?_
 clear ha105 a104; intro a106 ha106
 refine st_g ha106 rfl rfl rfl rfl (y_eql ha106 rfl rfl) ?_
 clear ha106 a106; intro a107 ha107
 refine st_y ha107 rfl (y_pickT ha107 rfl rfl) ?_
 clear ha107 a107; intro a108 ha108
 refine st_y ha108 rfl (y_move ha108 rfl) ?_
 clear ha108 a108; intro a109 ha109
 refine bool_cases ha109 (t := 70) rfl (fun hb110 ha110 => ?_) (fun hb110 ha110 => ?_)
 rotate_left
 · exact absurd hb110 (by first | decide | (simp; done) | (intro h; revert h; first | decide | (exact fun h => by cases h)))
 clear ha109 hb110
 refine st_g ha110 rfl rfl rfl rfl (y_move ha110 rfl) ?_
 clear ha110 a109; intro a111 ha111
 refine st_g ha111 rfl rfl rfl rfl (y_len ha111 rfl Try.underlying62) ?_
 clear ha111 a111; intro a112 ha112
 refine st_g ha112 rfl rfl rfl rfl (y_eql ha112 rfl rfl) ?_
 clear ha112 a112; intro a113 ha113
 refine st_y ha113 rfl (y_pickT ha113 rfl rfl) ?_
 clear ha113 a113; intro a114 ha114
 refine st_y ha114 rfl (y_move ha114 rfl) ?_
 clear ha114 a114; intro a115 ha115
 refine bool_cases ha115 (t := 75) rfl (fun hb116 ha116 => ?_) (fun hb116 ha116 => ?_)
 rotate_left
 · exact absurd hb116 (by first | decide | (simp; done) | (intro h; revert h; first | decide | (exact fun h => by cases h)))
 clear ha115 hb116
 refine st_g ha116 rfl rfl rfl rfl (y_move ha116 rfl) ?_
 clear ha116 a115; intro a117 ha117
 obtain ⟨b118, o118, vs118, hp118, hR118, ho118, m118⟩ := m100.openR (i := 33) rfl (2) (r := [.ns .u8 [120]]) rfl 37 rfl
 cases hp118; clear m100 ho118
 rcases hR118 with _ | ⟨hd118_0, _ | _⟩
 obtain ⟨p119, c119, hv119, hc119⟩ := hd118_0.ns_shape; subst hv119
 have m119 := m118.dat 38 rfl (hd118_0.cast (fun _ h => (free_add rfl h))); clear m118 hd118_0
 refine st_g ha117 rfl rfl rfl rfl (y_idx ha117 rfl rfl Try.underlying62 sz43kn (2) rfl (by decide)) ?_
 clear ha117 a117; intro a120 ha120
 refine st_g ha120 rfl rfl rfl rfl (y_loadC0 ha120 m119 (i := 37) rfl rfl Try.underlying43 rfl) ?_
 clear ha120 a120; intro a121 ha121
 refine st_g ha121 rfl rfl rfl rfl (y_str ha121 rfl (m119.nums (i := 38) rfl) Try.underlying43 Try.underlying5 Try.underlying9) ?_
 clear ha121 a121; intro a122 ha122
 refine st_g ha122 rfl rfl rfl rfl (y_eqlS ha122 rfl rfl) ?_
 clear ha122 a122; intro a123 ha123
 refine st_y ha123 rfl (y_pickT ha123 rfl rfl) ?_
 clear ha123 a123; intro a124 ha124
 refine st_y ha124 rfl (y_move ha124 rfl) ?_
 clear ha124 a124; intro a125 ha125
 refine bool_cases ha125 (t := 82) rfl (fun hb126 ha126 => ?_) (fun hb126 ha126 => ?_)
 rotate_left
 · exact absurd hb126 (fun h => absurd (h.symm.trans (by kernel_rfl : _ = true)) (by decide))
 clear ha125 hb126
 refine st_g ha126 rfl rfl rfl rfl (y_move ha126 rfl) ?_
 clear ha126 a125; intro a127 ha127
 refine st_g ha127 rfl rfl rfl rfl (y_eql ha127 rfl rfl) ?_
 clear ha127 a127; intro a128 ha128
 refine st_y ha128 rfl (y_pickT ha128 rfl rfl) ?_
 clear ha128 a128; intro a129 ha129
 refine st_y ha129 rfl (y_move ha129 rfl) ?_
 clear ha129 a129; intro a130 ha130
 refine bool_cases ha130 (t := 86) rfl (fun hb131 ha131 => ?_) (fun hb131 ha131 => ?_)
 rotate_left
 · exact absurd hb131 (by first | decide | (simp; done) | (intro h; revert h; first | decide | (exact fun h => by cases h)))
 clear ha130 hb131
 refine st_g ha131 rfl rfl rfl rfl (y_move ha131 rfl) ?_
 clear ha131 a130; intro a132 ha132
 refine st_y ha132 rfl (y_pickT ha132 rfl rfl) ?_
 clear ha132 a132; intro a133 ha133
 refine st_y ha133 rfl (y_move ha133 rfl) ?_
 clear ha133 a133; intro a134 ha134
 refine st_g ha134 rfl rfl rfl rfl (y_fieldAddr ha134 (off := 2) rfl Try.underlying73 rfl (s := 0) (by kernel_rfl) rfl) ?_
 clear ha134 a134; intro a135 ha135
 refine st_g ha135 rfl rfl rfl rfl (y_loadB1 ha135 m119 (i := 35) rfl rfl rfl Try.underlying3 rfl) ?_
 clear ha135 a135; intro a136 ha136
 refine st_g ha136 rfl rfl rfl rfl (y_eql ha136 rfl rfl) ?_
 clear ha136 a136; intro a137 ha137
 refine st_y ha137 rfl (y_pickT ha137 rfl rfl) ?_
 clear ha137 a137; intro a138 ha138
 refine st_y ha138 rfl (y_move ha138 rfl) ?_
 clear ha138 a138; intro a139 ha139
 refine bool_cases ha139 (t := 94) rfl (fun hb140 ha140 => ?_) (fun hb140 ha140 => ?_)
 rotate_left
 · exact absurd hb140 (by first | decide | (simp; done) | (intro h; revert h; first | decide | (exact fun h => by cases h)))
 clear ha139 hb140
 refine st_g ha140 rfl rfl rfl rfl (y_fieldAddr ha140 (off := 7) rfl Try.underlying73 rfl (s := 0) (by kernel_rfl) rfl) ?_
 clear ha140 a139; intro a141 ha141
 refine st_g ha141 rfl rfl rfl rfl (y_loadB1 ha141 m119 (i := 35) rfl rfl rfl Try.underlying32 rfl) ?_
 clear ha141 a141; intro a142 ha142
 refine st_g ha142 rfl rfl rfl rfl (y_len ha142 rfl Try.underlying32) ?_
 clear ha142 a142; intro a143 ha143
 refine st_g ha143 rfl rfl rfl rfl (y_eql ha143 rfl rfl) ?_
 clear ha143 a143; intro a144 ha144
 refine st_y ha144 rfl (y_pickT ha144 rfl rfl) ?_
 clear ha144 a144; intro a145 ha145
 refine st_y ha145 rfl (y_move ha145 rfl) ?_
 clear ha145 a145; intro a146 ha146
 refine bool_cases ha146 (t := 100) rfl (fun hb147 ha147 => ?_) (fun hb147 ha147 => ?_)
 rotate_left
 · exact absurd hb147 (by first | decide | (simp; done) | (intro h; revert h; first | decide | (exact fun h => by cases h)))
 clear ha146 hb147
 refine st_g ha147 rfl rfl rfl rfl (y_fieldAddr ha147 (off := 7) rfl Try.underlying73 rfl (s := 0) (by kernel_rfl) rfl) ?_
 clear ha147 a146; intro a148 ha148
 refine st_g ha148 rfl rfl rfl rfl (y_loadB1 ha148 m119 (i := 35) rfl rfl rfl Try.underlying32 rfl) ?_
 clear ha148 a148; intro a149 ha149
 obtain ⟨b150, o150, vs150, hp150, hR150, ho150, m150⟩ := m119.openR (i := 34) rfl (0) (r := [.v (.int .i64 1), .l 2 [itD (0, [120])]]) rfl 39 rfl
 cases hp150; clear m119 ho150
 rcases hR150 with _ | ⟨hd150_0, _ | ⟨hd150_1, _ | _⟩⟩
 obtain rfl := hd150_0.v_out
 clear hd150_0
 obtain ⟨p151, c151, hv151, hc151⟩ := hd150_1.l_shape; subst hv151
 have m151 := m150.dat 40 rfl (hd150_1.cast (fun _ h => (free_add rfl h))); clear m150 hd150_1
 refine st_g ha149 rfl rfl rfl rfl (y_idx ha149 rfl rfl Try.underlying32 sz55kn (0) rfl (by decide)) ?_
 clear ha149 a149; intro a152 ha152
 refine st_g ha152 rfl rfl rfl rfl (y_fieldAddrQ ha152 1 rfl Try.underlying55 rfl (s := 0) (by kernel_rfl) rfl) ?_
 clear ha152 a152; intro a153 ha153
 refine st_g ha153 rfl rfl rfl rfl (y_loadC1 ha153 m151 (i := 39) (q := 1) rfl rfl rfl Try.underlying23 rfl) ?_
 clear ha153 a153; intro a154 ha154
 obtain ⟨b155, o155, vs155, hp155, hR155, ho155, m155⟩ := m151.openR (i := 40) rfl (0) (r := [.v (.int .i64 0), .ns .u8 [120]]) rfl 41 rfl
 cases hp155; clear m151 ho155
 rcases hR155 with _ | ⟨hd155_0, _ | ⟨hd155_1, _ | _⟩⟩
 obtain rfl := hd155_0.v_out
 clear hd155_0
 obtain ⟨p156, c156, hv156, hc156⟩ := hd155_1.ns_shape; subst hv156
 have m156 := m155.dat 42 rfl (hd155_1.cast (fun _ h => (free_add rfl h))); clear m155 hd155_1
 refine st_g ha154 rfl rfl rfl rfl (y_idx ha154 rfl rfl Try.underlying23 sz67kn (0) rfl (by decide)) ?_
 clear ha154 a154; intro a157 ha157
 refine st_g ha157 rfl rfl rfl rfl (y_fieldAddrQ ha157 0 rfl Try.underlying67 rfl (s := 0) (by kernel_rfl) rfl) ?_
 clear ha157 a157; intro a158 ha158
 refine st_g ha158 rfl rfl rfl rfl (y_loadC0 ha158 m156 (i := 41) rfl rfl Try.underlying3 rfl) ?_
 clear ha158 a158; intro a159 ha159
 refine st_g ha159 rfl rfl rfl rfl (y_eql ha159 rfl rfl) ?_
 clear ha159 a159; intro a160 ha160
 refine st_y ha160 rfl (y_pickT ha160 rfl rfl) ?_
 clear ha160 a160; intro a161 ha161
 refine st_y ha161 rfl (y_move ha161 rfl) ?_
 clear ha161 a161; intro a162 ha162
 refine bool_cases ha162 (t := 111) rfl (fun hb163 ha163 => ?_) (fun hb163 ha163 => ?_)
 rotate_left
 · exact absurd hb163 (by first | decide | (simp; done) | (intro h; revert h; first | decide | (exact fun h => by cases h)))
 clear ha162 hb163
 refine st_g ha163 rfl rfl rfl rfl (y_move ha163 rfl) ?_
 clear ha163 a162; intro a164 ha164
 refine st_g ha164 rfl rfl rfl rfl (y_eql ha164 rfl rfl) ?_
 clear ha164 a164; intro a165 ha165
 refine st_y ha165 rfl (y_pickT ha165 rfl rfl) ?_
 clear ha165 a165; intro a166 ha166
 refine st_y ha166 rfl (y_move ha166 rfl) ?_
 clear ha166 a166; intro a167 ha167
 refine bool_cases ha167 (t := 115) rfl (fun hb168 ha168 => ?_) (fun hb168 ha168 => ?_)
 rotate_left
 · exact absurd hb168 (by first | decide | (simp; done) | (intro h; revert h; first | decide | (exact fun h => by cases h)))
 clear ha167 hb168
 refine st_g ha168 rfl rfl rfl rfl (y_loadBR ha168 m156 (i := 31) rfl rfl Try.underlying34 rfl sz34kn (by simp) (by dsimp only [List.drop, List.take] <;> rfl)) ?_
 clear ha168 a167; intro a169 ha169
 refine st_ge ha169 rfl rfl rfl rfl (fun K hK => ?_)
 refine e_call ha169 Try.func19 rfl rfl rfl rfl (vright_any 0 3 1 2 0 0 0 false [1, 2] [] [(1, [(2, [120])])] _ _ _ _ _ _ _ ((m156.rd (i := 27) rfl).any) ((m156.rd (i := 28) rfl).any) ((m156.rd (i := 29) rfl).any) (by decide) (by decide) (by decide) (by decide)) ?_
 rintro e w170 ⟨rb, rfl, hrb, hb170⟩
 obtain rfl : rb = true := hrb.2 vol1
 have m171 := m156.later hb170
 clear m156
 clear hb170
 refine ⟨_, rfl, fun a172 ha172 => ?_⟩; clear ha169 a169
 refine hK _ _ ?_; clear hK K
 refine st_y ha172 rfl (y_pickT ha172 rfl rfl) ?_
 clear ha172 a172; intro a173 ha173
 refine st_y ha173 rfl (y_move ha173 rfl) ?_
 clear ha173 a173; intro a174 ha174
 refine st_g ha174 rfl rfl rfl rfl (y_loadBR ha174 m171 (i := 31) rfl rfl Try.underlying34 rfl sz34kn (by simp) (by dsimp only [List.drop, List.take] <;> rfl)) ?_
 clear ha174 a174; intro a175 ha175
 refine st_ge ha175 rfl rfl rfl rfl (fun K hK => ?_)
 refine e_call ha175 Try.func22 rfl rfl rfl rfl (low_any 0 3 1 2 0 0 0 false [1, 2] [] [(1, [(2, [120])])] _ _ _ _ _ _ _ ((m171.rd (i := 28) rfl).any) (by decide)) ?_
 rintro e w176 ⟨rfl, hb176⟩
 have m177 := m171.later hb176
 clear m171
 clear hb176
 refine ⟨_, rfl, fun a178 ha178 => ?_⟩; clear ha175 a175
 refine hK _ _ ?_; clear hK K
 refine st_g ha178 rfl rfl rfl rfl (y_eql ha178 rfl rfl) ?_
 clear ha178 a178; intro a179 ha179
 refine st_y ha179 rfl (y_pickT ha179 rfl rfl) ?_
 clear ha179 a179; intro a180 ha180
 refine st_y ha180 rfl (y_assign ha180 rfl) ?_
 clear ha180 a180; intro a181 ha181
 refine wpList_nil ?_
 refine hK7 _ _ ?_; clear hK7; try clear K7
 refine wp_ret ?_
 try dsimp only [Exit.then, Exit.inBlock]
 refine (ret1 (fn := Try.f9) ha181 rfl rfl ?_)
 exact ⟨by first | rfl | simp | decide, m177.below⟩
end Go.Proofs.Ytocfbocdnklllaa.K
