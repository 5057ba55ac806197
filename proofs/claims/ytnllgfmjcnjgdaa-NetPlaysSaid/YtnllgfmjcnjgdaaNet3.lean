/- mementolaw19.known. -/
import Derived.Test.YtnllgfmjcnjgdaaNet2
import Derived.Test.YtnllgfmjcnjgdaaAb9
namespace Go.Proofs.Ytnllgfmjcnjgdaa.K
open Go.ChangeShapes Go.WideShapes Go.ChangeAt Go.RowKit
set_option linter.unusedVariables false
set_option linter.unusedSimpArgs false

theorem fl35k : flatS Try.prog 35 [.int .i64 0, .int .i64 0, .slice none 0 0] = true := by kernel_rfl
theorem inf5k : (Try.prog.info? 5).map (fun i => (i.zero, i.size, i.bytes)) = some (some (.int .u8 0), 1, 1) := by kernel_rfl
theorem inf35k : (Try.prog.info? 35).map (fun i => (i.zero, i.size, i.bytes)) = some (some (.agg #[.int .i64 0, .int .i64 0, .slice none 0 0]), 3, 40) := by kernel_rfl
theorem sz35k : (Try.prog.info? 35).map (·.size) = some 3 := by kernel_rfl
theorem zc35k : ((Try.prog.info? 35).bind (·.zero)).map (·.cells.toList) = some [.int .i64 0, .int .i64 0, .slice none 0 0] := by kernel_rfl

set_option maxRecDepth 100000
set_option maxHeartbeats 4000000
theorem nknown_any (w0 : World) : Calls Try.prog 6 #[] w0 fun e w' => e = .returned (.bool true) ∧ Below w0.heap.size w0 w' := by
  refine enter (fn := Try.f6) Try.func6 rfl Try.ntmps6 rfl (fun a0 ha0 => ?_)
  simp only [List.zipIdx_cons, List.zipIdx_nil, List.map_cons, List.map_nil, Nat.reduceAdd, Nat.zero_add] at ha0
  have m0 := MemOk.start (fun _ => True) w0
  refine wp_seq_k (fun K0 hK0 => ?_)
  refine wp_region_lit ?_
  refine st_y ha0 rfl (y_assign ha0 rfl) ?_
  clear ha0 a0; intro a1 ha1
  refine wpList_nil ?_
  refine hK0 _ _ ?_; clear hK0; try clear K0
  refine wp_seq_k (fun K1 hK1 => ?_)
  refine wp_region_lit ?_
  refine wpList_plain rfl (fun K hK => ?_)
  refine e_call ha1 Try.func7 rfl rfl rfl rfl (new_any _) ?_
  rintro e w2 ⟨B2, rfl, ⟨hB2, hg2⟩, hb2⟩
  have m3 := m0.newBox 1 hb2 hB2 (hg2.resolve_right (by simp [cx]))
  clear m0
  have m4 := m3.nilS 2 35 3
  clear m3
  clear hb2 hB2 hg2
  refine ⟨_, rfl, fun a5 ha5 => ?_⟩; clear ha1 a1
  refine hK _ _ ?_; clear hK K
  refine st_y ha5 rfl (y_assign ha5 rfl) ?_
  clear ha5 a5; intro a6 ha6
  refine wpList_nil ?_
  refine hK1 _ _ ?_; clear hK1; try clear K1
  refine wp_seq_k (fun K2 hK2 => ?_)
  refine wp_seq_k (fun K3 hK3 => ?_)
  refine wp_region_lit ?_
  refine st_y ha6 rfl (y_move ha6 rfl) ?_
  clear ha6 a6; intro a7 ha7
  refine st_y ha7 rfl (y_eqlP ha7 rfl rfl Try.underlying24) ?_
  clear ha7 a7; intro a8 ha8
  refine wpList_nil ?_
  refine hK3 _ _ ?_; clear hK3; try clear K3
  refine bool_cases ha8 (t := 9) rfl (fun hb9 ha9 => ?_) (fun hb9 ha9 => ?_)
  · exact absurd hb9 (by simp)
  clear ha8 hb9
  refine wp_cond_false (ha9.ev (x := .tmp 9) rfl) ?_
  refine wp_skip ?_
  refine hK2 _ _ ?_; clear hK2; try clear K2
  refine wp_seq_k (fun K4 hK4 => ?_)
  refine wp_region_lit ?_
  refine st_y ha9 rfl (y_move ha9 rfl) ?_
  clear ha9 a8; intro a10 ha10
  refine st_const ha10 m4 3 rfl rfl Try.underlying33 Try.underlying5 inf5k rfl rfl rfl rfl rfl ?_
  clear ha10 a10 m4; intro g11 a11 w11 ha11 m11
  refine st_y ha11 rfl (y_build ha11 rfl zc35k fl35k rfl (by dsimp only [setL, List.set] <;> rfl)) ?_
  clear ha11 a11; intro a12 ha12
  refine st_y ha12 rfl (y_build ha12 rfl zc35k fl35k rfl (by dsimp only [setL, List.set] <;> rfl)) ?_
  clear ha12 a12; intro a13 ha13
  refine wpList_plain rfl (fun K hK => ?_)
  refine e_litR ha13 m11 4 (mm := 3) rfl (.cons rfl rfl (.cons (.v _) (.cons (.v _) (.cons (m11.rd (i := 3) rfl) .nil))) <| .cons rfl rfl (.cons (.v _) (.cons (.v _) (.cons (Rd.nilN _ _ .u8 _) .nil))) <| .nil) Try.underlying27 inf35k rfl rfl rfl rfl rfl ?_
  clear ha13 a13 m11; intro g14 a15 w15 ha15 m15 
  refine hK _ _ ?_; clear hK K
  have m16 := m15.freezeR 4 rfl; clear m15
  refine wpList_plain rfl (fun K hK => ?_)
  refine e_call ha15 Try.func8 rfl rfl rfl rfl (send_any _ _ _ _ [((1 : Int), (2 : Int), [(97 : Int)]), (2, 1, [])] _ _ _ (m16.ok 1 _ rfl : Res.ok _ _ _ _ (.box _ _ _)).1 (m16.segP (i := 1) (j := 2) rfl rfl) (m16.neP (i := 1) (j := 2) (by decide) rfl rfl) ((m16.rd (i := 4) rfl).cast (fun b hF => ⟨hF, fun h => hF.2 ⟨1, _, rfl, by rw [h]; rfl⟩, fun h => hF.2 ⟨2, _, rfl, h⟩⟩)) (by simp) (by simp)) ?_
  rintro e w17 ⟨rfl, v17, hp17⟩
  have m18 := m16.callP 1 2 (by decide) rfl rfl hp17
  clear m16
  obtain ⟨p17, c17, hv17⟩ := hp17.2.1.shape
  subst hv17
  clear hp17
  refine ⟨_, rfl, fun a19 ha19 => ?_⟩; clear ha15 a15
  refine hK _ _ ?_; clear hK K
  have m20 : MemOk _ _ [(1, .box _ 48 [.slice _ (([((1 : Int), (2 : Int), [(97 : Int)]), (2, 1, [])]).map flD).length _]), (2, .seg (.slice _ (([((1 : Int), (2 : Int), [(97 : Int)]), (2, 1, [])]).map flD).length _) 35 3 (([((1 : Int), (2 : Int), [(97 : Int)]), (2, 1, [])]).map flD))] _ := m18.only [1, 2]; clear m18
  refine wpList_nil ?_
  refine hK4 _ _ ?_; clear hK4; try clear K4
  refine wp_seq_k (fun K5 hK5 => ?_)
  have ha21 : Has 60 [(0, _), (1, _)] a19 := ha19.only [0, 1]; clear ha19
  refine wp_region_lit ?_
  refine st_y ha21 rfl (y_move ha21 rfl) ?_
  clear ha21 a19; intro a22 ha22
  refine wpList_plain rfl (fun K hK => ?_)
  refine e_call ha22 Try.func13 rfl rfl rfl rfl (twice_yes _ _ _ _ 0 ([((1 : Int), (2 : Int), [(97 : Int)]), (2, 1, [])]) _ _ _ _ (m20.ok 1 _ rfl : Res.ok _ _ _ _ (.box _ _ _)).1 (m20.segP (i := 1) (j := 2) rfl rfl) (m20.neP (i := 1) (j := 2) (by decide) rfl rfl) (by simp) rfl (by simp)) ?_
  rintro e w23 ⟨v23, rfl, hp23⟩
  have m24 := m20.callP 1 2 (by decide) rfl rfl hp23
  clear m20
  obtain ⟨p23, c23, hv23⟩ := hp23.2.1.shape
  subst hv23
  clear hp23
  refine ⟨_, rfl, fun a25 ha25 => ?_⟩; clear ha22 a22
  refine hK _ _ ?_; clear hK K
  have m26 : MemOk _ _ [(1, .box _ 48 [.slice _ (([((1 : Int), (2 : Int), [(97 : Int)]), (2, 1, []), (1, 2, [97])]).map flD).length _]), (2, .seg (.slice _ (([((1 : Int), (2 : Int), [(97 : Int)]), (2, 1, []), (1, 2, [97])]).map flD).length _) 35 3 (([((1 : Int), (2 : Int), [(97 : Int)]), (2, 1, []), (1, 2, [97])]).map flD))] _ := m24.only [1, 2]; clear m24
  refine st_y ha25 rfl (y_assign ha25 rfl) ?_
  clear ha25 a25; intro a27 ha27
  refine wpList_nil ?_
  refine hK5 _ _ ?_; clear hK5; try clear K5
  refine wp_seq_k (fun K6 hK6 => ?_)
  refine wp_region_lit ?_
  refine st_y ha27 rfl (y_move ha27 rfl) ?_
  clear ha27 a27; intro a28 ha28
  refine wpList_plain rfl (fun K hK => ?_)
  refine e_call ha28 Try.func10 rfl rfl rfl rfl (take_yes _ _ _ _ 0 ([((1 : Int), (2 : Int), [(97 : Int)]), (2, 1, []), (1, 2, [97])]) _ _ _ _ (m26.ok 1 _ rfl : Res.ok _ _ _ _ (.box _ _ _)).1 (m26.segP (i := 1) (j := 2) rfl rfl) (m26.neP (i := 1) (j := 2) (by decide) rfl rfl) (by simp) rfl) ?_
  rintro e w29 ⟨v29, pp29, cc29, rfl, hp29, hd29⟩
  have hd29 := hd29.cast (fun b h => m26.freeC (i := 1) (j := 2) (pt := 48) (e := 35) (mm := 3) (rows' := (([((2 : Int), (1 : Int), ([] : List Int)), (1, 2, [97])]).map flD)) h)
  have m30 := m26.callP 1 2 (by decide) rfl rfl hp29
  clear m26
  have m31 := m30.dat 5 rfl hd29
  clear m30
  obtain ⟨p29, c29, hv29⟩ := hp29.2.1.shape
  subst hv29
  clear hp29 hd29
  refine ⟨_, rfl, fun a32 ha32 => ?_⟩; clear ha28 a28
  refine hK _ _ ?_; clear hK K
  refine st_y ha32 rfl (y_move ha32 rfl) ?_
  clear ha32 a32; intro a33 ha33
  refine st_y ha33 rfl (y_extract ha33 rfl rfl) ?_
  clear ha33 a33; intro a34 ha34
  refine st_y ha34 rfl (y_extract ha34 rfl rfl) ?_
  clear ha34 a34; intro a35 ha35
  refine wpList_plain rfl (fun K hK => ?_)
  refine e_alloc ha35 m31 6 zc35k rfl ?_
  clear ha35 a35 m31; intro g36 a37 w37 ha37 m37 hB37 hg37
  clear hB37 hg37
  refine hK _ _ ?_; clear hK K
  refine wpList_plain rfl (fun K hK => ?_)
  refine e_storeW ha37 m37 6 rfl rfl rfl rfl rfl sz35k ?_
  clear m37; intro w38 m38 hB38
  clear hB38
  refine hK _ _ ?_; clear hK K
  refine st_y ha37 rfl (y_assign ha37 rfl) ?_
  clear ha37 a37; intro a39 ha39
  refine wpList_nil ?_
  refine hK6 _ _ ?_; clear hK6; try clear K6
  refine wp_seq_k (fun K7 hK7 => ?_)
  have ha40 : Has 60 [(0, _), (1, _), (2, _), (3, _), (4, _)] a39 := ha39.only [0, 1, 2, 3, 4]; clear ha39
  refine wp_region_lit ?_
  refine st_y ha40 rfl (y_move ha40 rfl) ?_
  clear ha40 a39; intro a41 ha41
  refine wpList_plain rfl (fun K hK => ?_)
  refine e_call ha41 Try.func10 rfl rfl rfl rfl (take_no _ _ _ _ 9 ([((2 : Int), (1 : Int), ([] : List Int)), (1, 2, [97])]) _ (m38.ok 1 _ rfl : Res.ok _ _ _ _ (.box _ _ _)).1 (m38.segP (i := 1) (j := 2) rfl rfl) (m38.neP (i := 1) (j := 2) (by decide) rfl rfl) (by simp) (by simp)) ?_
  rintro e w42 ⟨v42, rfl, hp42⟩
  have m43 := m38.callP 1 2 (by decide) rfl rfl hp42
  clear m38
  obtain ⟨p42, c42, hv42⟩ := hp42.2.1.shape
  subst hv42
  clear hp42
  refine ⟨_, rfl, fun a44 ha44 => ?_⟩; clear ha41 a41
  refine hK _ _ ?_; clear hK K
  refine st_y ha44 rfl (y_move ha44 rfl) ?_
  clear ha44 a44; intro a45 ha45
  refine st_y ha45 rfl (y_extract ha45 rfl rfl) ?_
  clear ha45 a45; intro a46 ha46
  refine st_y ha46 rfl (y_extract ha46 rfl rfl) ?_
  clear ha46 a46; intro a47 ha47
  refine wpList_plain rfl (fun K hK => ?_)
  refine e_alloc ha47 m43 7 zc35k rfl ?_
  clear ha47 a47 m43; intro g48 a49 w49 ha49 m49 hB49 hg49
  clear hB49 hg49
  refine hK _ _ ?_; clear hK K
  refine wpList_plain rfl (fun K hK => ?_)
  refine e_storeW ha49 m49 7 rfl rfl rfl rfl rfl sz35k ?_
  clear m49; intro w50 m50 hB50
  clear hB50
  refine hK _ _ ?_; clear hK K
  refine st_y ha49 rfl (y_assign ha49 rfl) ?_
  clear ha49 a49; intro a51 ha51
  refine wpList_nil ?_
  refine hK7 _ _ ?_; clear hK7; try clear K7
  refine wp_seq_k (fun K8 hK8 => ?_)
  have ha52 : Has 60 [(0, _), (1, _), (2, _), (3, _), (4, _), (6, _)] a51 := ha51.only [0, 1, 2, 3, 4, 6]; clear ha51
  refine wp_region_lit ?_
  refine st_y ha52 rfl (y_move ha52 rfl) ?_
  clear ha52 a51; intro a53 ha53
  refine st_y ha53 rfl (y_move ha53 rfl) ?_
  clear ha53 a53; intro a54 ha54
  refine st_g ha54 rfl rfl rfl rfl (y_move ha54 rfl) ?_
  clear ha54 a54; intro a55 ha55
  refine st_y ha55 rfl (y_pickT ha55 rfl rfl) ?_
  clear ha55 a55; intro a56 ha56
  refine st_y ha56 rfl (y_move ha56 rfl) ?_
  clear ha56 a56; intro a57 ha57
  refine st_g ha57 rfl rfl rfl rfl (y_move ha57 rfl) ?_
  clear ha57 a57; intro a58 ha58
  refine st_g ha58 rfl rfl rfl rfl (y_not ha58 rfl) ?_
  clear ha58 a58; intro a59 ha59
  refine st_y ha59 rfl (y_pickT ha59 rfl rfl) ?_
  clear ha59 a59; intro a60 ha60
  refine st_y ha60 rfl (y_move ha60 rfl) ?_
  clear ha60 a60; intro a61 ha61
  refine st_g ha61 rfl rfl rfl rfl (y_fieldAddr ha61 (off := 1) rfl Try.underlying35 rfl (s := 0) (by kernel_rfl) rfl) ?_
  clear ha61 a61; intro a62 ha62
  refine st_g ha62 rfl rfl rfl rfl (y_loadB1 ha62 m50 (i := 6) rfl rfl rfl Try.underlying3 rfl) ?_
  clear ha62 a62; intro a63 ha63
  refine st_g ha63 rfl rfl rfl rfl (y_eql ha63 rfl rfl) ?_
  clear ha63 a63; intro a64 ha64
  refine st_y ha64 rfl (y_pickT ha64 rfl rfl) ?_
  clear ha64 a64; intro a65 ha65
  refine st_y ha65 rfl (y_move ha65 rfl) ?_
  clear ha65 a65; intro a66 ha66
  refine bool_cases ha66 (t := 42) rfl (fun hb67 ha67 => ?_) (fun hb67 ha67 => ?_)
  rotate_left
  · exact absurd hb67 (by simp)
  clear ha66 hb67
  refine st_g ha67 rfl rfl rfl rfl (y_move ha67 rfl) ?_
  clear ha67 a66; intro a68 ha68
  refine st_ge ha68 rfl rfl rfl rfl (fun K hK => ?_)
  refine e_call ha68 Try.func15 rfl rfl rfl rfl (len_any _ _ _ _ _ (m50.ok 1 _ rfl : Res.ok _ _ _ _ (.box _ _ _)).1) ?_
  rintro e w69 ⟨rfl, hb69⟩
  have m70 := m50.later hb69
  clear m50
  clear hb69
  refine ⟨_, rfl, fun a71 ha71 => ?_⟩; clear ha68 a68
  refine hK _ _ ?_; clear hK K
  refine st_g ha71 rfl rfl rfl rfl (y_eql ha71 rfl rfl) ?_
  clear ha71 a71; intro a72 ha72
  refine st_y ha72 rfl (y_pickT ha72 rfl rfl) ?_
  clear ha72 a72; intro a73 ha73
  refine st_y ha73 rfl (y_move ha73 rfl) ?_
  clear ha73 a73; intro a74 ha74
  refine bool_cases ha74 (t := 47) rfl (fun hb75 ha75 => ?_) (fun hb75 ha75 => ?_)
  rotate_left
  · exact absurd hb75 (by simp)
  clear ha74 hb75
  refine st_g ha75 rfl rfl rfl rfl (y_move ha75 rfl) ?_
  clear ha75 a74; intro a76 ha76
  refine st_ge ha76 rfl rfl rfl rfl (fun K hK => ?_)
  refine e_call ha76 Try.func16 rfl rfl rfl rfl (all_any _ _ _ ([((2 : Int), (1 : Int), ([] : List Int)), (1, 2, [97])]) _ (m70.ok 1 _ rfl : Res.ok _ _ _ _ (.box _ _ _)).1 (m70.segP (i := 1) (j := 2) rfl rfl) (m70.neP (i := 1) (j := 2) (by decide) rfl rfl) (by simp) (by simp)) ?_
  rintro e w77 ⟨v77, pp77, cc77, rfl, hp77, hd77⟩
  have hd77 := hd77.cast (fun b h => m70.freeC (i := 1) (j := 2) (pt := 48) (e := 35) (mm := 3) (rows' := (([((2 : Int), (1 : Int), ([] : List Int)), (1, 2, [97])]).map flD)) h)
  have m78 := m70.callP 1 2 (by decide) rfl rfl hp77
  clear m70
  have m79 := m78.dat 8 rfl hd77
  clear m78
  obtain ⟨p77, c77, hv77⟩ := hp77.2.1.shape
  subst hv77
  clear hp77 hd77
  refine ⟨_, rfl, fun a80 ha80 => ?_⟩; clear ha76 a76
  refine hK _ _ ?_; clear hK K
  obtain ⟨b81, o81, vs81, hp81, hR81, ho81, m81⟩ := m79.openR (i := 8) rfl (1) (r := [.v (.int .i64 1), .v (.int .i64 2), .ns .u8 [97]]) rfl 9 rfl
  cases hp81; clear m79 ho81
  rcases hR81 with _ | ⟨hd81_0, _ | ⟨hd81_1, _ | ⟨hd81_2, _ | _⟩⟩⟩
  obtain rfl := hd81_0.v_out
  clear hd81_0
  obtain rfl := hd81_1.v_out
  clear hd81_1
  obtain ⟨p82, c82, hv82, hc82⟩ := hd81_2.ns_shape; subst hv82
  have m82 := m81.dat 10 rfl (hd81_2.cast (fun _ h => (free_add rfl h))); clear m81 hd81_2
  refine st_g ha80 rfl rfl rfl rfl (y_idx ha80 rfl rfl Try.underlying27 sz35k (1) rfl (by simp)) ?_
  clear ha80 a80; intro a83 ha83
  refine st_g ha83 rfl rfl rfl rfl (y_fieldAddrQ ha83 0 rfl Try.underlying35 rfl (s := 0) (by kernel_rfl) rfl) ?_
  clear ha83 a83; intro a84 ha84
  refine st_g ha84 rfl rfl rfl rfl (y_loadC0 ha84 m82 (i := 9) rfl rfl Try.underlying3 rfl) ?_
  clear ha84 a84; intro a85 ha85
  refine st_g ha85 rfl rfl rfl rfl (y_eql ha85 rfl rfl) ?_
  clear ha85 a85; intro a86 ha86
  refine st_y ha86 rfl (y_pickT ha86 rfl rfl) ?_
  clear ha86 a86; intro a87 ha87
  refine st_y ha87 rfl (y_move ha87 rfl) ?_
  clear ha87 a87; intro a88 ha88
  refine bool_cases ha88 (t := 55) rfl (fun hb89 ha89 => ?_) (fun hb89 ha89 => ?_)
  rotate_left
  · exact absurd hb89 (by simp)
  clear ha88 hb89
  refine st_g ha89 rfl rfl rfl rfl (y_move ha89 rfl) ?_
  clear ha89 a88; intro a90 ha90
  refine st_ge ha90 rfl rfl rfl rfl (fun K hK => ?_)
  refine e_call ha90 Try.func13 rfl rfl rfl rfl (twice_no _ _ _ _ (-1) ([((2 : Int), (1 : Int), ([] : List Int)), (1, 2, [97])]) _ (m82.ok 1 _ rfl : Res.ok _ _ _ _ (.box _ _ _)).1 (m82.segP (i := 1) (j := 2) rfl rfl) (m82.neP (i := 1) (j := 2) (by decide) rfl rfl) (by simp) (by simp)) ?_
  rintro e w91 ⟨v91, rfl, hp91⟩
  have m92 := m82.callP 1 2 (by decide) rfl rfl hp91
  clear m82
  obtain ⟨p91, c91, hv91⟩ := hp91.2.1.shape
  subst hv91
  clear hp91
  refine ⟨_, rfl, fun a93 ha93 => ?_⟩; clear ha90 a90
  refine hK _ _ ?_; clear hK K
  refine st_g ha93 rfl rfl rfl rfl (y_not ha93 rfl) ?_
  clear ha93 a93; intro a94 ha94
  refine st_y ha94 rfl (y_pickT ha94 rfl rfl) ?_
  clear ha94 a94; intro a95 ha95
  refine st_y ha95 rfl (y_assign ha95 rfl) ?_
  clear ha95 a95; intro a96 ha96
  refine wpList_nil ?_
  refine hK8 _ _ ?_; clear hK8; try clear K8
  refine wp_ret ?_
  try dsimp only [Exit.then, Exit.inBlock]
  refine (ret1 (fn := Try.f6) ha96 rfl rfl ?_)
  exact ⟨by simp, m92.below⟩
end Go.Proofs.Ytnllgfmjcnjgdaa.K
