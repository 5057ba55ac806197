/- VolumeForms and its like: known. -/
import Derived.Test.YtocfbocdnklllaaGreatVol8
namespace Go.Proofs.YtocfbocdnklllaaGreat.K
open Go.ChangeShapes Go.WideShapes Go.ChangeAt Go.RowKit
set_option linter.unusedVariables false
set_option linter.unusedSimpArgs false

theorem fl50kn : flatS Tryz.prog 50 [.int .i64 0, .int .i64 0, .int .i64 0, .int .i64 0, .int .i64 0, .slice none 0 0, .int .i64 0, .int .i64 0, .int .i64 0, .slice none 0 0] = true := by kernel_rfl
theorem fl56kn : flatS Tryz.prog 56 [.int .i64 0, .slice none 0 0] = true := by kernel_rfl
theorem inf3kn : (Tryz.prog.info? 3).map (fun i => (i.zero, i.size, i.bytes)) = some (some (.int .i64 0), 1, 8) := by kernel_rfl
theorem inf5kn : (Tryz.prog.info? 5).map (fun i => (i.zero, i.size, i.bytes)) = some (some (.int .u8 0), 1, 1) := by kernel_rfl
theorem inf56kn : (Tryz.prog.info? 56).map (fun i => (i.zero, i.size, i.bytes)) = some (some (.agg #[.int .i64 0, .slice none 0 0]), 2, 32) := by kernel_rfl
theorem sz22kn : (Tryz.prog.info? 22).map (·.size) = some 1 := by kernel_rfl
theorem sz28kn : (Tryz.prog.info? 28).map (·.size) = some 11 := by kernel_rfl
theorem sz32kn : (Tryz.prog.info? 32).map (·.size) = some 8 := by kernel_rfl
theorem sz45kn : (Tryz.prog.info? 45).map (·.size) = some 5 := by kernel_rfl
theorem sz56kn : (Tryz.prog.info? 56).map (·.size) = some 2 := by kernel_rfl
theorem sz58kn : (Tryz.prog.info? 58).map (·.size) = some 2 := by kernel_rfl
theorem zc28kn : ((Tryz.prog.info? 28).bind (·.zero)).map (·.cells.toList) = some [.int .i64 0, .int .i64 0, .int .i64 0, .int .i64 0, .slice none 0 0, .int .i64 0, .int .i64 0, .bool false, .int .i64 0, .slice none 0 0, .slice none 0 0] := by kernel_rfl
theorem zc32kn : ((Tryz.prog.info? 32).bind (·.zero)).map (·.cells.toList) = some [.int .i64 0, .int .i64 0, .int .i64 0, .int .i64 0, .int .i64 0, .int .i64 0, .int .i64 0, .slice none 0 0] := by kernel_rfl
theorem zc45kn : ((Tryz.prog.info? 45).bind (·.zero)).map (·.cells.toList) = some [.int .i64 0, .int .i64 0, .int .i64 0, .int .i64 0, .slice none 0 0] := by kernel_rfl
theorem zc50kn : ((Tryz.prog.info? 50).bind (·.zero)).map (·.cells.toList) = some [.int .i64 0, .int .i64 0, .int .i64 0, .int .i64 0, .int .i64 0, .slice none 0 0, .int .i64 0, .int .i64 0, .int .i64 0, .slice none 0 0] := by kernel_rfl
theorem zc56kn : ((Tryz.prog.info? 56).bind (·.zero)).map (·.cells.toList) = some [.int .i64 0, .slice none 0 0] := by kernel_rfl

theorem new3 : NewOk 0 3 1 2 0 [1, 2] := by unfold NewOk PlaceOk; simp
theorem new0 : ¬ NewOk 0 0 0 0 0 [] := by unfold NewOk; omega
theorem items1 : ItemsR 3 1 [(2, [120])] := by
 refine ⟨by decide, by decide, fun j hj => ?_⟩
 obtain rfl : j = 0 := by simpa using hj
 simp
theorem items1o : ItsOk [(2, [120])] := fun e he => by simp at he; subst he; decide
theorem wrs1o : WrsOk [(1, [(2, [120])])] := fun e he => by simp at he; subst he; exact ⟨by decide, items1o⟩
theorem vol1 : VolR 0 3 1 2 0 0 0 false [1, 2] [] [(1, [(2, [120])])] := ⟨new3, by decide, by decide, by simp, by simp, by decide, by decide, fun j hj => by simp at hj, fun j hj => by
 obtain rfl : j = 0 := by simpa using hj
 exact ⟨by simp, items1⟩⟩
set_option maxRecDepth 100000
set_option maxHeartbeats 4000000
theorem vknown_any (w0 : World) : Calls Tryz.prog 5 #[] w0 fun e w' => e = .returned (.bool true) ∧ Below w0.heap.size w0 w' := by
 refine enter (fn := Tryz.f5) Tryz.func5 rfl Tryz.ntmps5 rfl (fun Az Hz => ?_)
 simp only [List.zipIdx_cons, List.zipIdx_nil, List.map_cons, List.map_nil, Nat.reduceAdd, Nat.zero_add] at Hz
 have m0 := MemOk.start (fun _ => False) w0
 refine regS Hz (.assign rfl <| .nil) ?_
 clear Hz Az; intro Az Hz
 refine wp_seq_k (fun K0 hK0 => ?_)
 refine wp_region_lit ?_
 refine wpList_plain rfl (fun K hK => ?_)
 refine e_litN Hz m0 20 (k := .i64) rfl rfl Tryz.underlying24 inf3kn rfl rfl rfl rfl ?_
 clear Hz Az m0; intro g2 Az w3 Hz m3
 refine hK _ _ ?_; clear hK K
 refine goCh Hz (.build rfl zc50kn fl50kn rfl (by dsimp only [setL, List.set] <;> rfl) .nil) ?_
 clear Hz Az; intro Az Hz
 have m5 := m3.freezeN 20 rfl; clear m3
 refine wpList_plain rfl (fun K hK => ?_)
 refine e_call Hz Tryz.func17 rfl rfl rfl rfl (vnew_yes _ 0 3 1 2 0 _ _ [1, 2] _ _ _ _ _ _ ((m5.rd (i := 20) rfl).any) (by decide) new3) ?_
 rintro e w6 ⟨p6, c6, rfl, hd6, hb6⟩
 have m7 := m5.callF 21 rfl hb6 hd6
 clear m5
 clear hb6 hd6
 refine ⟨_, rfl, ?_⟩; clear Hz Az; intro Az Hz
 refine hK _ _ ?_; clear hK K
 refine goCh Hz (.move rfl <| .extract rfl rfl <| .extract rfl rfl <| .nil) ?_
 clear Hz Az; intro Az Hz
 refine wpList_plain rfl (fun K hK => ?_)
 refine e_alloc Hz m7 22 zc28kn rfl ?_
 clear Hz Az m7; intro g12 Az w13 Hz m13 hB13 hg13
 clear hB13 hg13
 refine hK _ _ ?_; clear hK K
 refine wpList_plain rfl (fun K hK => ?_)
 refine e_storeW Hz m13 22 rfl rfl rfl rfl rfl sz28kn ?_
 clear m13; intro w14 m14 hB14
 clear hB14
 refine hK _ _ ?_; clear hK K
 refine goCh Hz (.assign rfl .nil) ?_
 clear Hz Az; intro Az Hz
 refine wpList_nil ?_
 refine hK0 _ _ ?_; clear hK0; try clear K0
 replace Hz : Has 124 [(0, _), (1, _), (2, _)] Az := Hz.only [0, 1, 2]
 refine wp_seq_k (fun K1 hK1 => ?_)
 refine wp_region_lit ?_
 refine goCh Hz (.loadBR m14 (i := 22) rfl rfl Tryz.underlying28 rfl sz28kn (by simp) (by dsimp only [List.drop, List.take] <;> rfl) .nil) ?_
 clear Hz Az; intro Az Hz
 refine st_const Hz m14 23 rfl rfl Tryz.underlying22 Tryz.underlying5 inf5kn rfl rfl rfl rfl rfl ?_
 clear Hz Az m14; intro g19 a19 w19 ha19 m19
 refine goCh ha19 (.build rfl zc56kn fl56kn rfl (by dsimp only [setL, List.set] <;> rfl) .nil) ?_
 clear ha19 a19; intro a19 ha19
 refine wpList_plain rfl (fun K hK => ?_)
 refine e_litR ha19 m19 24 (mm := 2) rfl (.cons rfl rfl (.cons (.v _) (.cons (m19.rd (i := 23) rfl) .nil)) <| .nil) Tryz.underlying48 inf56kn rfl rfl rfl rfl rfl ?_
 clear ha19 a19 m19; intro g21 Az w22 Hz m22
 refine hK _ _ ?_; clear hK K
 refine goCh Hz (.build rfl zc50kn fl50kn rfl (by dsimp only [setL, List.set] <;> rfl) .nil) ?_
 clear Hz Az; intro Az Hz
 have m24 := m22.freezeR 24 rfl; clear m22
 have m25 := m24.dat 25 rfl (Rd.nilN _ _ .i64 none); clear m24
 have m26 := m25.dat 26 rfl (Rd.l0 none 0 2); clear m25
 have m27 := m26.dat 30 rfl (m26.rd (i := 21) rfl); clear m26
 refine wpList_plain rfl (fun K hK => ?_)
 refine e_call Hz Tryz.func14 rfl rfl rfl rfl (vDo_put _ 0 3 1 2 0 0 0 [1, 2] [] [] [(2, [120])] _ _ _ _ _ _ _ _ _ _ _ _ _ _ _ _ _ _ _ (by decide) (by decide) (by decide) items1 items1o (fun _ h => by cases h) (m27.into [(1, 30), (2, 25), (3, 26), (4, 24)] (by decide) rfl)) ?_
 rintro e w28 ⟨p128, c128, p228, c228, p328, c328, rfl, hm28⟩
 have mx28 := m27.back hm28 [(30, 1), (25, 2), (26, 3), (24, 4), (27, 5), (28, 6), (29, 7)] (by decide); clear hm28 m27
 have m28 : MemOk _ _ [(30, _), (25, _), (26, _), (24, _), (27, _), (28, _), (29, _), (20, _), (21, _), (22, _), (23, _)] _ := mx28.only [30, 25, 26, 24, 27, 28, 29, 20, 21, 22, 23]; clear mx28
 refine ⟨_, rfl, ?_⟩; clear Hz Az; intro Az Hz
 refine hK _ _ ?_; clear hK K
 have m30 := m28.freezeS 29 rfl (by simp [cx]); clear m28
 refine goCh Hz (.move rfl <| .extract rfl rfl <| .extract rfl rfl <| .nil) ?_
 clear Hz Az; intro Az Hz
 refine wpList_plain rfl (fun K hK => ?_)
 refine e_alloc Hz m30 31 zc28kn rfl ?_
 clear Hz Az m30; intro g34 Az w35 Hz m35 hB35 hg35
 clear hB35 hg35
 refine hK _ _ ?_; clear hK K
 refine wpList_plain rfl (fun K hK => ?_)
 refine e_alloc Hz m35 32 zc45kn rfl ?_
 clear Hz Az m35; intro g36 Az w37 Hz m37 hB37 hg37
 clear hB37 hg37
 refine hK _ _ ?_; clear hK K
 refine wpList_plain rfl (fun K hK => ?_)
 refine e_storeW Hz m37 31 rfl rfl rfl rfl rfl sz28kn ?_
 clear m37; intro w38 m38 hB38
 clear hB38
 refine hK _ _ ?_; clear hK K
 refine wpList_plain rfl (fun K hK => ?_)
 refine e_storeW Hz m38 32 rfl rfl rfl rfl rfl sz45kn ?_
 clear m38; intro w39 m39 hB39
 clear hB39
 refine hK _ _ ?_; clear hK K
 refine wpList_nil ?_
 refine hK1 _ _ ?_; clear hK1; try clear K1
 replace Hz : Has 124 [(0, _), (2, _), (3, _), (4, _)] Az := Hz.only [0, 2, 3, 4]
 refine wp_seq_k (fun K2 hK2 => ?_)
 refine wp_region_lit ?_
 refine goCh Hz (.loadBR m39 (i := 31) rfl rfl Tryz.underlying28 rfl sz28kn (by simp) (by dsimp only [List.drop, List.take] <;> rfl) .nil) ?_
 clear Hz Az; intro Az Hz
 refine wpList_plain rfl (fun K hK => ?_)
 refine e_call Hz Tryz.func11 rfl rfl rfl rfl (state_any 0 3 1 2 0 0 0 false _ _ _ _ _ _ _ _ [(1, [(2, [120])])] 1 1 3 1 _ ((m39.rd (i := 29) rfl).any) (by decide) wrs1o (by decide) (by decide) rfl rfl rfl) ?_
 rintro e w43 ⟨p43, c43, rfl, hd43, hb43⟩
 have m44 := m39.callF 33 rfl hb43 hd43
 clear m39
 clear hb43 hd43
 refine ⟨_, rfl, ?_⟩; clear Hz Az; intro Az Hz
 refine hK _ _ ?_; clear hK K
 refine goCh Hz (.move rfl <| .extract rfl rfl <| .extract rfl rfl <| .assign rfl <| .assign rfl <| .nil) ?_
 clear Hz Az; intro Az Hz
 refine wpList_nil ?_
 refine hK2 _ _ ?_; clear hK2; try clear K2
 refine wp_seq_k (fun K3 hK3 => ?_)
 refine wp_region_lit ?_
 refine goCh Hz (.loadBR m44 (i := 31) rfl rfl Tryz.underlying28 rfl sz28kn (by simp) (by dsimp only [List.drop, List.take] <;> rfl) .nil) ?_
 clear Hz Az; intro Az Hz
 refine wpList_plain rfl (fun K hK => ?_)
 refine e_call Hz Tryz.func11 rfl rfl rfl rfl (state_future 0 3 1 2 0 0 0 false _ _ _ _ _ _ _ _ [(1, [(2, [120])])] 2 _ (by decide) (by decide)) ?_
 rintro e w53 ⟨rfl, hb53⟩
 have m54 := m44.later hb53
 clear m44
 clear hb53
 refine ⟨_, rfl, ?_⟩; clear Hz Az; intro Az Hz
 refine hK _ _ ?_; clear hK K
 refine goCh Hz (.move rfl <| .extract rfl rfl <| .extract rfl rfl <| .assign rfl <| .assign rfl <| .nil) ?_
 clear Hz Az; intro Az Hz
 refine wpList_nil ?_
 refine hK3 _ _ ?_; clear hK3; try clear K3
 replace Hz : Has 124 [(0, _), (2, _), (3, _), (4, _), (5, _), (6, _), (8, _)] Az := Hz.only [0, 2, 3, 4, 5, 6, 8]
 refine wp_seq_k (fun K4 hK4 => ?_)
 refine wp_region_lit ?_
 refine goCh Hz (.loadBR m54 (i := 31) rfl rfl Tryz.underlying28 rfl sz28kn (by simp) (by dsimp only [List.drop, List.take] <;> rfl) .nil) ?_
 clear Hz Az; intro Az Hz
 refine wpList_plain rfl (fun K hK => ?_)
 refine e_call Hz Tryz.func8 rfl rfl rfl rfl (push_any 0 3 1 2 0 0 0 false _ _ _ _ _ _ _ [1, 2] [(1, [(2, [120])])] 1 2 1 0 1 _ ((m54.rd (i := 29) rfl).any) (by decide) (by decide) wrs1o (by decide) (by decide) rfl (by decide) (by decide) (by decide) rfl) ?_
 rintro e w64 ⟨p64, c64, rfl, hd64, hb64⟩
 have m65 := m54.callF 34 rfl hb64 hd64
 clear m54
 clear hb64 hd64
 refine ⟨_, rfl, ?_⟩; clear Hz Az; intro Az Hz
 refine hK _ _ ?_; clear hK K
 refine goCh Hz (.move rfl <| .extract rfl rfl <| .extract rfl rfl <| .nil) ?_
 clear Hz Az; intro Az Hz
 refine wpList_plain rfl (fun K hK => ?_)
 refine e_alloc Hz m65 35 zc32kn rfl ?_
 clear Hz Az m65; intro g70 Az w71 Hz m71 hB71 hg71
 clear hB71 hg71
 refine hK _ _ ?_; clear hK K
 refine wpList_plain rfl (fun K hK => ?_)
 refine e_storeW Hz m71 35 rfl rfl rfl rfl rfl sz32kn ?_
 clear m71; intro w72 m72 hB72
 clear hB72
 refine hK _ _ ?_; clear hK K
 refine goCh Hz (.assign rfl .nil) ?_
 clear Hz Az; intro Az Hz
 refine wpList_nil ?_
 refine hK4 _ _ ?_; clear hK4; try clear K4
 refine wp_seq_k (fun K5 hK5 => ?_)
 refine wp_region_lit ?_
 refine goCh Hz (.build rfl zc50kn fl50kn rfl (by dsimp only [setL, List.set] <;> rfl) .nil) ?_
 clear Hz Az; intro Az Hz
 refine wpList_plain rfl (fun K hK => ?_)
 refine e_call Hz Tryz.func17 rfl rfl rfl rfl (vnew_no _ 0 0 0 0 0 _ _ [] _ _ _ _ _ _ (Rd.nilN _ _ .i64 none) (by decide) new0) ?_
 rintro e w76 ⟨rfl, hb76⟩
 have m77 := m72.later hb76
 clear m72
 clear hb76
 refine ⟨_, rfl, ?_⟩; clear Hz Az; intro Az Hz
 refine hK _ _ ?_; clear hK K
 refine goCh Hz (.move rfl <| .extract rfl rfl <| .extract rfl rfl <| .nil) ?_
 clear Hz Az; intro Az Hz
 refine wpList_plain rfl (fun K hK => ?_)
 refine e_alloc Hz m77 36 zc28kn rfl ?_
 clear Hz Az m77; intro g82 Az w83 Hz m83 hB83 hg83
 clear hB83 hg83
 refine hK _ _ ?_; clear hK K
 refine wpList_plain rfl (fun K hK => ?_)
 refine e_storeW Hz m83 36 rfl rfl rfl rfl rfl sz28kn ?_
 clear m83; intro w84 m84 hB84
 clear hB84
 refine hK _ _ ?_; clear hK K
 refine goCh Hz (.assign rfl .nil) ?_
 clear Hz Az; intro Az Hz
 refine wpList_nil ?_
 refine hK5 _ _ ?_; clear hK5; try clear K5
 replace Hz : Has 124 [(0, _), (2, _), (3, _), (4, _), (5, _), (6, _), (8, _), (9, _), (10, _), (12, _)] Az := Hz.only [0, 2, 3, 4, 5, 6, 8, 9, 10, 12]
 refine wp_seq_k (fun K6 hK6 => ?_)
 refine wp_region_lit ?_
 refine goCh Hz (.move rfl <| .eql rfl rfl <| .move rfl <| .nil) ?_
 clear Hz Az; intro Az Hz
 refine bool_cases Hz (t := 51) rfl ?_ ?_
 rotate_left
 · intro hb _; exact absurd hb (by first | decide | (simp; done) | (intro h; revert h; first | decide | (exact fun h => by cases h)))
 clear Hz; intro _ Hz
 refine goCh Hz (.fieldAddrZ (off := 0) rfl Tryz.underlying45 rfl (s := 0) (by kernel_rfl) rfl <| .loadB1Z m84 (i := 32) rfl rfl rfl Tryz.underlying37 rfl <| .eqlZ rfl rfl <| .pickT rfl rfl <| .move rfl <| .nil) ?_
 clear Hz Az; intro Az Hz
 refine bool_cases Hz (t := 56) rfl ?_ ?_
 rotate_left
 · intro hb _; exact absurd hb (by first | decide | (simp; done) | (intro h; revert h; first | decide | (exact fun h => by cases h)))
 clear Hz; intro _ Hz
 refine goCh Hz (.fieldAddrZ (off := 1) rfl Tryz.underlying45 rfl (s := 0) (by kernel_rfl) rfl <| .loadB1Z m84 (i := 32) rfl rfl rfl Tryz.underlying2 rfl <| .eqlZ rfl rfl <| .pickT rfl rfl <| .move rfl <| .nil) ?_
 clear Hz Az; intro Az Hz
 refine bool_cases Hz (t := 61) rfl ?_ ?_
 rotate_left
 · intro hb _; exact absurd hb (by first | decide | (simp; done) | (intro h; revert h; first | decide | (exact fun h => by cases h)))
 clear Hz; intro _ Hz
 refine goCh Hz (.loadBRZ m84 (i := 31) rfl rfl Tryz.underlying28 rfl sz28kn (by simp) (by dsimp only [List.drop, List.take] <;> rfl) .nil) ?_
 clear Hz Az; intro Az Hz
 refine st_ge Hz rfl rfl rfl rfl (fun K hK => ?_)
 refine e_call Hz Tryz.func18 rfl rfl rfl rfl (vlen_any _ _ _ _ _ _ _ _ _ _ _ _ _ _ _ _ _ _) ?_
 rintro e w107 ⟨rfl, hb107⟩
 have m108 := m84.later hb107
 clear m84
 clear hb107
 refine ⟨_, rfl, ?_⟩; clear Hz Az; intro Az Hz
 refine hK _ _ ?_; clear hK K
 refine goCh Hz (.eqlZ rfl rfl <| .pickT rfl rfl <| .move rfl <| .nil) ?_
 clear Hz Az; intro Az Hz
 refine bool_cases Hz (t := 66) rfl ?_ ?_
 rotate_left
 · intro hb _; exact absurd hb (by first | decide | (simp; done) | (intro h; revert h; first | decide | (exact fun h => by cases h)))
 clear Hz; intro _ Hz
 refine goCh Hz (.moveZ rfl <| .eqlZ rfl rfl <| .pickT rfl rfl <| .move rfl <| .nil) ?_
 clear Hz Az; intro Az Hz
 refine bool_cases Hz (t := 70) rfl ?_ ?_
 rotate_left
 · intro hb _; exact absurd hb (by first | decide | (simp; done) | (intro h; revert h; first | decide | (exact fun h => by cases h)))
 clear Hz; intro _ Hz
 refine goCh Hz (.moveZ rfl <| .lenZ rfl Tryz.underlying36 <| .eqlZ rfl rfl <| .pickT rfl rfl <| .move rfl <| .nil) ?_
 clear Hz Az; intro Az Hz
 refine bool_cases Hz (t := 75) rfl ?_ ?_
 rotate_left
 · intro hb _; exact absurd hb (by first | decide | (simp; done) | (intro h; revert h; first | decide | (exact fun h => by cases h)))
 clear Hz; intro _ Hz
 refine goCh Hz (.moveZ rfl .nil) ?_
 clear Hz Az; intro Az Hz
 obtain ⟨b126, o126, vs126, hp126, hR126, ho126, m126⟩ := m108.openR (i := 33) rfl (2) (r := [.ns .u8 [120]]) rfl 37 rfl
 cases hp126; clear m108 ho126
 rcases hR126 with _ | ⟨hd126_0, _ | _⟩
 obtain ⟨p127, c127, hv127, hc127⟩ := hd126_0.ns_shape; subst hv127
 have m127 := m126.dat 38 rfl (hd126_0.cast (fun _ h => (free_add rfl h))); clear m126 hd126_0
 refine goCh Hz (.g rfl rfl rfl rfl (fun _ h => y_idx h rfl rfl Tryz.underlying36 sz22kn (2) rfl (by decide)) <| .loadC0Z m127 (i := 37) rfl rfl Tryz.underlying22 rfl <| .strZ rfl (m127.nums (i := 38) rfl) Tryz.underlying22 Tryz.underlying5 Tryz.underlying9 <| .eqlSZ rfl rfl <| .pickT rfl rfl <| .move rfl <| .nil) ?_
 clear Hz Az; intro Az Hz
 refine bool_cases Hz (t := 82) rfl ?_ ?_
 rotate_left
 · intro hb _; exact absurd hb (fun h => absurd (h.symm.trans (by kernel_rfl : _ = true)) (by decide))
 clear Hz; intro _ Hz
 refine goCh Hz (.moveZ rfl <| .eqlZ rfl rfl <| .pickT rfl rfl <| .move rfl <| .nil) ?_
 clear Hz Az; intro Az Hz
 refine bool_cases Hz (t := 86) rfl ?_ ?_
 rotate_left
 · intro hb _; exact absurd hb (by first | decide | (simp; done) | (intro h; revert h; first | decide | (exact fun h => by cases h)))
 clear Hz; intro _ Hz
 refine goCh Hz (.moveZ rfl <| .pickT rfl rfl <| .move rfl <| .fieldAddrZ (off := 2) rfl Tryz.underlying32 rfl (s := 0) (by kernel_rfl) rfl <| .loadB1Z m127 (i := 35) rfl rfl rfl Tryz.underlying3 rfl <| .eqlZ rfl rfl <| .pickT rfl rfl <| .move rfl <| .nil) ?_
 clear Hz Az; intro Az Hz
 refine bool_cases Hz (t := 94) rfl ?_ ?_
 rotate_left
 · intro hb _; exact absurd hb (by first | decide | (simp; done) | (intro h; revert h; first | decide | (exact fun h => by cases h)))
 clear Hz; intro _ Hz
 refine goCh Hz (.fieldAddrZ (off := 7) rfl Tryz.underlying32 rfl (s := 0) (by kernel_rfl) rfl <| .loadB1Z m127 (i := 35) rfl rfl rfl Tryz.underlying26 rfl <| .lenZ rfl Tryz.underlying26 <| .eqlZ rfl rfl <| .pickT rfl rfl <| .move rfl <| .nil) ?_
 clear Hz Az; intro Az Hz
 refine bool_cases Hz (t := 100) rfl ?_ ?_
 rotate_left
 · intro hb _; exact absurd hb (by first | decide | (simp; done) | (intro h; revert h; first | decide | (exact fun h => by cases h)))
 clear Hz; intro _ Hz
 refine goCh Hz (.fieldAddrZ (off := 7) rfl Tryz.underlying32 rfl (s := 0) (by kernel_rfl) rfl <| .loadB1Z m127 (i := 35) rfl rfl rfl Tryz.underlying26 rfl <| .nil) ?_
 clear Hz Az; intro Az Hz
 obtain ⟨b158, o158, vs158, hp158, hR158, ho158, m158⟩ := m127.openR (i := 34) rfl (0) (r := [.v (.int .i64 1), .l 2 [itD (0, [120])]]) rfl 39 rfl
 cases hp158; clear m127 ho158
 rcases hR158 with _ | ⟨hd158_0, _ | ⟨hd158_1, _ | _⟩⟩
 obtain rfl := hd158_0.v_out
 clear hd158_0
 obtain ⟨p159, c159, hv159, hc159⟩ := hd158_1.l_shape; subst hv159
 have m159 := m158.dat 40 rfl (hd158_1.cast (fun _ h => (free_add rfl h))); clear m158 hd158_1
 refine goCh Hz (.g rfl rfl rfl rfl (fun _ h => y_idx h rfl rfl Tryz.underlying26 sz58kn (0) rfl (by decide)) <| .fieldAddrQZ 1 rfl Tryz.underlying58 rfl (s := 0) (by kernel_rfl) rfl <| .loadC1Z m159 (i := 39) (q := 1) rfl rfl rfl Tryz.underlying48 rfl <| .nil) ?_
 clear Hz Az; intro Az Hz
 obtain ⟨b163, o163, vs163, hp163, hR163, ho163, m163⟩ := m159.openR (i := 40) rfl (0) (r := [.v (.int .i64 0), .ns .u8 [120]]) rfl 41 rfl
 cases hp163; clear m159 ho163
 rcases hR163 with _ | ⟨hd163_0, _ | ⟨hd163_1, _ | _⟩⟩
 obtain rfl := hd163_0.v_out
 clear hd163_0
 obtain ⟨p164, c164, hv164, hc164⟩ := hd163_1.ns_shape; subst hv164
 have m164 := m163.dat 42 rfl (hd163_1.cast (fun _ h => (free_add rfl h))); clear m163 hd163_1
 refine goCh Hz (.g rfl rfl rfl rfl (fun _ h => y_idx h rfl rfl Tryz.underlying48 sz56kn (0) rfl (by decide)) <| .fieldAddrQZ 0 rfl Tryz.underlying56 rfl (s := 0) (by kernel_rfl) rfl <| .loadC0Z m164 (i := 41) rfl rfl Tryz.underlying3 rfl <| .eqlZ rfl rfl <| .pickT rfl rfl <| .move rfl <| .nil) ?_
 clear Hz Az; intro Az Hz
 refine bool_cases Hz (t := 111) rfl ?_ ?_
 rotate_left
 · intro hb _; exact absurd hb (by first | decide | (simp; done) | (intro h; revert h; first | decide | (exact fun h => by cases h)))
 clear Hz; intro _ Hz
 refine goCh Hz (.moveZ rfl <| .eqlZ rfl rfl <| .pickT rfl rfl <| .move rfl <| .nil) ?_
 clear Hz Az; intro Az Hz
 refine bool_cases Hz (t := 115) rfl ?_ ?_
 rotate_left
 · intro hb _; exact absurd hb (by first | decide | (simp; done) | (intro h; revert h; first | decide | (exact fun h => by cases h)))
 clear Hz; intro _ Hz
 refine goCh Hz (.loadBRZ m164 (i := 31) rfl rfl Tryz.underlying28 rfl sz28kn (by simp) (by dsimp only [List.drop, List.take] <;> rfl) .nil) ?_
 clear Hz Az; intro Az Hz
 refine st_ge Hz rfl rfl rfl rfl (fun K hK => ?_)
 refine e_call Hz Tryz.func19 rfl rfl rfl rfl (vright_any 0 3 1 2 0 0 0 false [1, 2] [] [(1, [(2, [120])])] _ _ _ _ _ _ _ ((m164.rd (i := 27) rfl).any) ((m164.rd (i := 28) rfl).any) ((m164.rd (i := 29) rfl).any) (by decide) (by decide) (by decide) (by decide)) ?_
 rintro e w178 ⟨rb, rfl, hrb, hb178⟩
 obtain rfl : rb = true := hrb.2 vol1
 have m179 := m164.later hb178
 clear m164
 clear hb178
 refine ⟨_, rfl, ?_⟩; clear Hz Az; intro Az Hz
 refine hK _ _ ?_; clear hK K
 refine goCh Hz (.pickT rfl rfl <| .move rfl <| .loadBRZ m179 (i := 31) rfl rfl Tryz.underlying28 rfl sz28kn (by simp) (by dsimp only [List.drop, List.take] <;> rfl) <| .nil) ?_
 clear Hz Az; intro Az Hz
 refine st_ge Hz rfl rfl rfl rfl (fun K hK => ?_)
 refine e_call Hz Tryz.func15 rfl rfl rfl rfl (low_any 0 3 1 2 0 0 0 false [1, 2] [] [(1, [(2, [120])])] _ _ _ _ _ _ _ ((m179.rd (i := 28) rfl).any) (by decide)) ?_
 rintro e w184 ⟨rfl, hb184⟩
 have m185 := m179.later hb184
 clear m179
 clear hb184
 refine ⟨_, rfl, ?_⟩; clear Hz Az; intro Az Hz
 refine hK _ _ ?_; clear hK K
 refine goCh Hz (.eqlZ rfl rfl <| .pickT rfl rfl <| .assign rfl <| .nil) ?_
 clear Hz Az; intro Az Hz
 refine wpList_nil ?_
 refine hK6 _ _ ?_; clear hK6; try clear K6
 refine wp_ret ?_
 try dsimp only [Exit.then, Exit.inBlock]
 refine (ret1 (fn := Tryz.f5) Hz rfl rfl ?_)
 exact ⟨by first | rfl | simp | decide, m185.below⟩
end Go.Proofs.YtocfbocdnklllaaGreat.K
