/- intake: known; IntakeCounts' walk. -/
import Derived.Test.YtkdnhndjjfjppaaInt1b
import Derived.Test.YtkdnhndjjfjppaaInt2b
import Derived.Test.YtkdnhndjjfjppaaInt2c
namespace Go.Proofs.Ytkdnhndjjfjppaa.K
open Go.ChangeShapes Go.WideShapes Go.ChangeAt Go.RowKit
set_option linter.unusedVariables false
set_option linter.unusedSimpArgs false
theorem fl24ikn : flatS Try.prog 24 [.int .i64 0, .int .i64 0, .int .i64 0, .int .i64 0, .slice none 0 0] = true := by kernel_rfl
theorem fl29ikn : flatS Try.prog 29 [.int .i64 0, .slice none 0 0] = true := by kernel_rfl
theorem fl49ikn : flatS Try.prog 49 [.int .i64 0, .int .i64 0, .int .i64 0, .int .i64 0, .slice none 0 0, .int .i64 0, .int .i64 0, .bool false, .int .i64 0, .slice none 0 0, .slice none 0 0] = true := by kernel_rfl
abbrev spK : List (Int × List Int) := [((0 : Int), [(120 : Int)]), (1, [121])]
theorem spOk : StreamOk 2 1 (-1) 0 spK := ⟨by decide, by decide, by decide, by decide, by decide, fun _ => by decide, fun k e he => by
 match k, he with
 | 0, he => obtain rfl := (Option.some.inj he).symm; decide
 | 1, he => obtain rfl := (Option.some.inj he).symm; decide, by decide⟩
theorem spIo : ItsOk spK := fun e he => by
 simp only [List.mem_cons, List.not_mem_nil, or_false] at he
 rcases he with rfl | rfl <;> decide
theorem spNew : NewOk 3 2 1 1 ((1 : Nat) : Int) [1, 2] := by unfold NewOk PlaceOk; simp
theorem spNo : ¬ NewOk 3 2 1 1 ((1 : Nat) : Int) [] := by unfold NewOk PlaceOk; simp
theorem spL : ∀ c ∈ (planL 3 1 [1, 2] 2 1 spK 8 1), c.pl.length ≤ 1000000 ∧ c.its.length ≤ 1000000 ∧ ItsOk c.its := fun c hc => by
 have h : c = planH 3 1 [1, 2] 2 1 1 ∨ c = impR 3 spK 8 0 ∨ c = ⟨7, 3, 0, 0, 0, [], 0, 0, 0, []⟩ := by
   simpa [planL, List.range_succ] using hc
 rcases h with rfl | rfl | rfl
 · exact ⟨by decide, by decide, fun e he => by cases he⟩
 · exact ⟨by decide, by decide, fun e he => spIo e (chunkI_mem he)⟩
 exact ⟨by decide, by decide, fun e he => by cases he⟩
set_option maxRecDepth 100000
set_option maxHeartbeats 4000000
theorem iknown_any (w0 : World) : Calls Try.prog 7 #[] w0 fun e w' => e = .returned (.bool true) ∧ Below w0.heap.size w0 w' := by
 refine ent0 Try.func7 rfl Try.ntmps7 fun Az Hz => ?_
 have m0 := MemOk.start (fun _ => False) w0
 refine regS Hz (.assign rfl <| .nil) ?_
 clear Hz Az; intro Az Hz
 refine zsr fun K0 hK0 => ?_
 refine st_const Hz m0 20 rfl rfl U25 U5 fct19 rfl rfl rfl rfl rfl ?_
 clear Hz Az m0; intro g2 a2 w2 ha2 m2
 refine goCh ha2 (.build rfl fct20 fl29ikn rfl (by dsimp only [setL, List.set] <;> rfl) .nil) ?_
 clear ha2 a2; intro a2 ha2
 refine st_const ha2 m2 21 rfl rfl U25 U5 fct19 rfl rfl rfl rfl rfl ?_
 clear ha2 a2 m2; intro g4 a4 w4 ha4 m4
 refine goCh ha4 (.build rfl fct20 fl29ikn rfl (by dsimp only [setL, List.set] <;> rfl) .nil) ?_
 clear ha4 a4; intro a4 ha4
 refine wpList_plain rfl (fun K hK => ?_)
 refine e_litR ha4 m4 22 (mm := 2) rfl (.cons rfl rfl (.cons (.v _) (.cons (m4.rd (i := 20) rfl) .nil)) <| .cons rfl rfl (.cons (.v _) (.cons (m4.rd (i := 21) rfl) .nil)) <| .nil) U22 fct21 rfl rfl rfl rfl rfl ?_
 clear ha4 a4 m4; intro g6 Az w7 Hz m7
 refine hK _ _ ?_; clear hK
 refine goCh Hz (.build rfl fct37 fl24ikn rfl (by dsimp only [setL, List.set] <;> rfl) .nil) ?_
 clear Hz Az; intro Az Hz
 refine wpList_plain rfl (fun K hK => ?_)
 refine e_alloc Hz m7 23 fct37 rfl ?_
 clear Hz Az m7; intro g9 Az w10 Hz m10 hB10 hg10
 clear hB10 hg10
 refine hK _ _ ?_; clear hK
 refine wpList_plain rfl (fun K hK => ?_)
 refine e_storeW Hz m10 23 rfl rfl rfl rfl rfl fct2 ?_
 clear m10; intro w11 m11 hB11
 clear hB11
 refine hK _ _ ?_; clear hK
 refine znl (hK0 _ _ ?_); clear hK0
 replace Hz : Has 87 [(0, _), (1, _)] Az := Hz.only [0, 1]
 refine zsr fun K1 hK1 => ?_
 refine goCh Hz (.loadBR m11 (i := 23) rfl rfl U24 rfl fct2 (by simp) (by dsimp only [List.drop, List.take] <;> rfl) .nil) ?_
 clear Hz Az; intro Az Hz
 refine wpList_plain rfl (fun K hK => ?_)
 refine e_litN Hz m11 24 (k := .i64) rfl rfl U26 fct3 rfl rfl rfl rfl ?_
 clear Hz Az m11; intro g15 Az w16 Hz m16
 refine hK _ _ ?_; clear hK
 have m17 := m16.freezeR 22 rfl; clear m16
 have m18 := m17.freezeN 24 rfl; clear m17
 refine wpList_plain rfl (fun K hK => ?_)
 refine e_call Hz Try.func9 rfl rfl rfl rfl (plan_yes 2 1 (-1) 0 3 1 spK _ _ _ [1, 2] _ _ 8 1 _ _ (m18.rd (i := 22) rfl) ((m18.rd (i := 24) rfl).any) spOk spIo (by decide) (by decide) (by decide) (by decide) rfl spNew) ?_
 rintro e w19 ⟨p19, c19, rfl, hd19, hb19⟩
 have m20 := m18.callD 25 rfl hb19 hd19
 clear m18
 clear hb19 hd19
 refine ⟨_, rfl, ?_⟩; clear Hz Az; intro Az Hz
 refine hK _ _ ?_; clear hK
 refine goCh Hz (.move rfl <| .extract rfl rfl <| .extract rfl rfl <| .assign rfl <| .assign rfl <| .nil) ?_
 clear Hz Az; intro Az Hz
 refine znl (hK1 _ _ ?_); clear hK1
 replace Hz : Has 87 [(0, _), (1, _), (2, _), (3, _)] Az := Hz.only [0, 1, 2, 3]
 refine zsr fun K2 hK2 => ?_
 refine goCh Hz (.loadBR m20 (i := 23) rfl rfl U24 rfl fct2 (by simp) (by dsimp only [List.drop, List.take] <;> rfl) .nil) ?_
 clear Hz Az; intro Az Hz
 refine wpList_plain rfl (fun K hK => ?_)
 refine e_call Hz Try.func9 rfl rfl rfl rfl (plan_no 2 1 (-1) 0 3 1 spK _ _ _ [] _ _ 8 1 _ _ (m20.rd (i := 22) rfl) (Rd.nilN _ _ .i64 none) spOk spIo (by decide) (by decide) (by decide) (by decide) spNo) ?_
 rintro e w30 ⟨rfl, hb30⟩
 have m31 := m20.later hb30
 clear m20
 clear hb30
 refine ⟨_, rfl, ?_⟩; clear Hz Az; intro Az Hz
 refine hK _ _ ?_; clear hK
 refine goCh Hz (.move rfl <| .extract rfl rfl <| .extract rfl rfl <| .assign rfl <| .assign rfl <| .nil) ?_
 clear Hz Az; intro Az Hz
 refine znl (hK2 _ _ ?_); clear hK2
 replace Hz : Has 87 [(0, _), (2, _), (3, _), (5, _)] Az := Hz.only [0, 2, 3, 5]
 refine zsr fun K3 hK3 => ?_
 refine goCh Hz (.move rfl <| .build rfl fct6 fl49ikn rfl (by dsimp only [setL, List.set] <;> rfl) <| .nil) ?_
 clear Hz Az; intro Az Hz
 refine wpList_plain rfl (fun K hK => ?_)
 refine e_call Hz Try.func14 rfl rfl rfl rfl (rest_hid (planL 3 1 [1, 2] 2 1 spK 8 1) _ _ _ ((m31.rd (i := 25) rfl).any) (by decide) spL _ _ _ _ _ _ _ _ _ _ _ _ _ _ _ _ 1 rfl (by decide)) ?_
 rintro e w43 ⟨p43, c43, rfl, hd43, hb43⟩
 have m44 := m31.callF 26 rfl hb43 hd43
 clear m31
 clear hb43 hd43
 refine ⟨_, rfl, ?_⟩; clear Hz Az; intro Az Hz
 refine hK _ _ ?_; clear hK
 refine goCh Hz (.assign rfl .nil) ?_
 clear Hz Az; intro Az Hz
 refine znl (hK3 _ _ ?_); clear hK3
 refine zsr fun K4 hK4 => ?_
 refine goCh Hz (.move rfl <| .eql rfl rfl <| .move rfl <| .nil) ?_
 clear Hz Az; intro Az Hz
 refine bool_cases Hz (t := 31) rfl ?_ ?_
 rotate_left
 · intro hb _; exact absurd hb (by first | decide | (simp; done) | (intro h; revert h; first | decide | (exact fun h => by cases h)))
 clear Hz; intro _ Hz
 refine goCh Hz (.moveZ rfl <| .lenZ rfl U31 <| .eqlZ rfl rfl <| .pickT rfl rfl <| .move rfl <| .nil) ?_
 clear Hz Az; intro Az Hz
 refine bool_cases Hz (t := 36) rfl ?_ ?_
 rotate_left
 · intro hb _; exact absurd hb (by first | decide | (simp; done) | (intro h; revert h; first | decide | (exact fun h => by cases h)))
 clear Hz; intro _ Hz
 refine goCh Hz (.moveZ rfl .nil) ?_
 clear Hz Az; intro Az Hz
 obtain ⟨b61, o61, vs61, hp61, hR61, ho61, m61⟩ := m44.openR (i := 25) rfl (0) (r := [.v (.int .i64 (planH 3 1 [1, 2] 2 1 1).kd), .v (.int .i64 (planH 3 1 [1, 2] 2 1 1).vo), .v (.int .i64 (planH 3 1 [1, 2] 2 1 1).bl), .v (.int .i64 (planH 3 1 [1, 2] 2 1 1).sz), .v (.int .i64 (planH 3 1 [1, 2] 2 1 1).pe), .ns .i64 (planH 3 1 [1, 2] 2 1 1).pl, .v (.int .i64 (planH 3 1 [1, 2] 2 1 1).to), .v (.int .i64 (planH 3 1 [1, 2] 2 1 1).at0), .v (.int .i64 (planH 3 1 [1, 2] 2 1 1).ix), .l 2 ((planH 3 1 [1, 2] 2 1 1).its.map itD)]) rfl 27 rfl
 cases hp61; clear m44 ho61
 rcases hR61 with _ | ⟨hd61_0, _ | ⟨hd61_1, _ | ⟨hd61_2, _ | ⟨hd61_3, _ | ⟨hd61_4, _ | ⟨hd61_5, _ | ⟨hd61_6, _ | ⟨hd61_7, _ | ⟨hd61_8, _ | ⟨hd61_9, _ | _⟩⟩⟩⟩⟩⟩⟩⟩⟩⟩
 obtain rfl := hd61_0.v_out
 clear hd61_0
 obtain rfl := hd61_1.v_out
 clear hd61_1
 obtain rfl := hd61_2.v_out
 clear hd61_2
 obtain rfl := hd61_3.v_out
 clear hd61_3
 obtain rfl := hd61_4.v_out
 clear hd61_4
 obtain ⟨p62, c62, hv62, hc62⟩ := hd61_5.ns_shape; subst hv62
 have m62 := m61.dat 28 rfl (hd61_5.cast (fun _ h => (free_add rfl h))); clear m61 hd61_5
 obtain rfl := hd61_6.v_out
 clear hd61_6
 obtain rfl := hd61_7.v_out
 clear hd61_7
 obtain rfl := hd61_8.v_out
 clear hd61_8
 obtain ⟨p63, c63, hv63, hc63⟩ := hd61_9.l_shape; subst hv63
 have m63 := m62.dat 29 rfl (hd61_9.cast (fun _ h => (free_add rfl (free_add rfl h)))); clear m62 hd61_9
 refine goCh Hz (.g rfl rfl rfl rfl (fun _ h => y_idx h rfl rfl U31 fct1 (0) rfl (by decide)) <| .fieldAddrQZ 0 rfl U57 rfl (s := 0) (by kernel_rfl) rfl <| .loadC0Z m63 (i := 27) rfl rfl U3 rfl <| .eqlZ rfl rfl <| .pickT rfl rfl <| .move rfl <| .nil) ?_
 clear Hz Az; intro Az Hz
 refine bool_cases Hz (t := 43) rfl ?_ ?_
 rotate_left
 · intro hb _; exact absurd hb (by first | decide | (simp; done) | (intro h; revert h; first | decide | (exact fun h => by cases h)))
 clear Hz; intro _ Hz
 refine goCh Hz (.moveZ rfl .nil) ?_
 clear Hz Az; intro Az Hz
 obtain ⟨b72, o72, vs72, hp72, hR72, ho72, m72⟩ := m63.openR (i := 25) rfl (0) (r := [.v (.int .i64 (planH 3 1 [1, 2] 2 1 1).kd), .v (.int .i64 (planH 3 1 [1, 2] 2 1 1).vo), .v (.int .i64 (planH 3 1 [1, 2] 2 1 1).bl), .v (.int .i64 (planH 3 1 [1, 2] 2 1 1).sz), .v (.int .i64 (planH 3 1 [1, 2] 2 1 1).pe), .ns .i64 (planH 3 1 [1, 2] 2 1 1).pl, .v (.int .i64 (planH 3 1 [1, 2] 2 1 1).to), .v (.int .i64 (planH 3 1 [1, 2] 2 1 1).at0), .v (.int .i64 (planH 3 1 [1, 2] 2 1 1).ix), .l 2 ((planH 3 1 [1, 2] 2 1 1).its.map itD)]) rfl 30 rfl
 cases hp72; clear m63 ho72
 rcases hR72 with _ | ⟨hd72_0, _ | ⟨hd72_1, _ | ⟨hd72_2, _ | ⟨hd72_3, _ | ⟨hd72_4, _ | ⟨hd72_5, _ | ⟨hd72_6, _ | ⟨hd72_7, _ | ⟨hd72_8, _ | ⟨hd72_9, _ | _⟩⟩⟩⟩⟩⟩⟩⟩⟩⟩
 obtain rfl := hd72_0.v_out
 clear hd72_0
 obtain rfl := hd72_1.v_out
 clear hd72_1
 obtain rfl := hd72_2.v_out
 clear hd72_2
 obtain rfl := hd72_3.v_out
 clear hd72_3
 obtain rfl := hd72_4.v_out
 clear hd72_4
 obtain ⟨p73, c73, hv73, hc73⟩ := hd72_5.ns_shape; subst hv73
 have m73 := m72.dat 31 rfl (hd72_5.cast (fun _ h => (free_add rfl h))); clear m72 hd72_5
 obtain rfl := hd72_6.v_out
 clear hd72_6
 obtain rfl := hd72_7.v_out
 clear hd72_7
 obtain rfl := hd72_8.v_out
 clear hd72_8
 obtain ⟨p74, c74, hv74, hc74⟩ := hd72_9.l_shape; subst hv74
 have m74 := m73.dat 32 rfl (hd72_9.cast (fun _ h => (free_add rfl (free_add rfl h)))); clear m73 hd72_9
 refine goCh Hz (.g rfl rfl rfl rfl (fun _ h => y_idx h rfl rfl U31 fct1 (0) rfl (by decide)) <| .fieldAddrQZ 6 rfl U57 rfl (s := 0) (by kernel_rfl) rfl <| .loadC1Z m74 (i := 30) (q := 6) rfl rfl rfl U3 rfl <| .eqlZ rfl rfl <| .pickT rfl rfl <| .move rfl <| .nil) ?_
 clear Hz Az; intro Az Hz
 refine bool_cases Hz (t := 50) rfl ?_ ?_
 rotate_left
 · intro hb _; exact absurd hb (by first | decide | (simp; done) | (intro h; revert h; first | decide | (exact fun h => by cases h)))
 clear Hz; intro _ Hz
 refine goCh Hz (.moveZ rfl .nil) ?_
 clear Hz Az; intro Az Hz
 obtain ⟨b83, o83, vs83, hp83, hR83, ho83, m83⟩ := m74.openR (i := 25) rfl (1) (r := [.v (.int .i64 (impR 3 spK 8 0).kd), .v (.int .i64 (impR 3 spK 8 0).vo), .v (.int .i64 (impR 3 spK 8 0).bl), .v (.int .i64 (impR 3 spK 8 0).sz), .v (.int .i64 (impR 3 spK 8 0).pe), .ns .i64 (impR 3 spK 8 0).pl, .v (.int .i64 (impR 3 spK 8 0).to), .v (.int .i64 (impR 3 spK 8 0).at0), .v (.int .i64 (impR 3 spK 8 0).ix), .l 2 ((impR 3 spK 8 0).its.map itD)]) rfl 33 rfl
 cases hp83; clear m74 ho83
 rcases hR83 with _ | ⟨hd83_0, _ | ⟨hd83_1, _ | ⟨hd83_2, _ | ⟨hd83_3, _ | ⟨hd83_4, _ | ⟨hd83_5, _ | ⟨hd83_6, _ | ⟨hd83_7, _ | ⟨hd83_8, _ | ⟨hd83_9, _ | _⟩⟩⟩⟩⟩⟩⟩⟩⟩⟩
 obtain rfl := hd83_0.v_out
 clear hd83_0
 obtain rfl := hd83_1.v_out
 clear hd83_1
 obtain rfl := hd83_2.v_out
 clear hd83_2
 obtain rfl := hd83_3.v_out
 clear hd83_3
 obtain rfl := hd83_4.v_out
 clear hd83_4
 obtain ⟨p84, c84, hv84, hc84⟩ := hd83_5.ns_shape; subst hv84
 have m84 := m83.dat 34 rfl (hd83_5.cast (fun _ h => (free_add rfl h))); clear m83 hd83_5
 obtain rfl := hd83_6.v_out
 clear hd83_6
 obtain rfl := hd83_7.v_out
 clear hd83_7
 obtain rfl := hd83_8.v_out
 clear hd83_8
 obtain ⟨p85, c85, hv85, hc85⟩ := hd83_9.l_shape; subst hv85
 have m85 := m84.dat 35 rfl (hd83_9.cast (fun _ h => (free_add rfl (free_add rfl h)))); clear m84 hd83_9
 refine goCh Hz (.g rfl rfl rfl rfl (fun _ h => y_idx h rfl rfl U31 fct1 (1) rfl (by decide)) <| .fieldAddrQZ 9 rfl U57 rfl (s := 0) (by kernel_rfl) rfl <| .loadC1Z m85 (i := 33) (q := 9) rfl rfl rfl U22 rfl <| .lenZ rfl U22 <| .eqlZ rfl rfl <| .pickT rfl rfl <| .move rfl <| .nil) ?_
 clear Hz Az; intro Az Hz
 refine bool_cases Hz (t := 58) rfl ?_ ?_
 rotate_left
 · intro hb _; exact absurd hb (by first | decide | (simp; done) | (intro h; revert h; first | decide | (exact fun h => by cases h)))
 clear Hz; intro _ Hz
 refine goCh Hz (.moveZ rfl .nil) ?_
 clear Hz Az; intro Az Hz
 obtain ⟨b95, o95, vs95, hp95, hR95, ho95, m95⟩ := m85.openR (i := 25) rfl (2) (r := [.v (.int .i64 7), .v (.int .i64 3), .v (.int .i64 0), .v (.int .i64 0), .v (.int .i64 0), .ns .i64 [], .v (.int .i64 0), .v (.int .i64 0), .v (.int .i64 0), .l 2 []]) rfl 36 rfl
 cases hp95; clear m85 ho95
 rcases hR95 with _ | ⟨hd95_0, _ | ⟨hd95_1, _ | ⟨hd95_2, _ | ⟨hd95_3, _ | ⟨hd95_4, _ | ⟨hd95_5, _ | ⟨hd95_6, _ | ⟨hd95_7, _ | ⟨hd95_8, _ | ⟨hd95_9, _ | _⟩⟩⟩⟩⟩⟩⟩⟩⟩⟩
 obtain rfl := hd95_0.v_out
 clear hd95_0
 obtain rfl := hd95_1.v_out
 clear hd95_1
 obtain rfl := hd95_2.v_out
 clear hd95_2
 obtain rfl := hd95_3.v_out
 clear hd95_3
 obtain rfl := hd95_4.v_out
 clear hd95_4
 obtain ⟨p96, c96, hv96, hc96⟩ := hd95_5.ns_shape; subst hv96
 have m96 := m95.dat 37 rfl (hd95_5.cast (fun _ h => (free_add rfl h))); clear m95 hd95_5
 obtain rfl := hd95_6.v_out
 clear hd95_6
 obtain rfl := hd95_7.v_out
 clear hd95_7
 obtain rfl := hd95_8.v_out
 clear hd95_8
 obtain ⟨p97, c97, hv97, hc97⟩ := hd95_9.l_shape; subst hv97
 have m97 := m96.dat 38 rfl (hd95_9.cast (fun _ h => (free_add rfl (free_add rfl h)))); clear m96 hd95_9
 refine goCh Hz (.g rfl rfl rfl rfl (fun _ h => y_idx h rfl rfl U31 fct1 (2) rfl (by decide)) <| .fieldAddrQZ 0 rfl U57 rfl (s := 0) (by kernel_rfl) rfl <| .loadC0Z m97 (i := 36) rfl rfl U3 rfl <| .eqlZ rfl rfl <| .pickT rfl rfl <| .move rfl <| .nil) ?_
 clear Hz Az; intro Az Hz
 refine bool_cases Hz (t := 65) rfl ?_ ?_
 rotate_left
 · intro hb _; exact absurd hb (by first | decide | (simp; done) | (intro h; revert h; first | decide | (exact fun h => by cases h)))
 clear Hz; intro _ Hz
 refine goCh Hz (.moveZ rfl <| .eqlZ rfl rfl <| .pickT rfl rfl <| .move rfl <| .nil) ?_
 clear Hz Az; intro Az Hz
 refine bool_cases Hz (t := 69) rfl ?_ ?_
 rotate_left
 · intro hb _; exact absurd hb (by first | decide | (simp; done) | (intro h; revert h; first | decide | (exact fun h => by cases h)))
 clear Hz; intro _ Hz
 refine goCh Hz (.moveZ rfl <| .lenZ rfl U31 <| .eqlZ rfl rfl <| .pickT rfl rfl <| .move rfl <| .nil) ?_
 clear Hz Az; intro Az Hz
 refine bool_cases Hz (t := 74) rfl ?_ ?_
 rotate_left
 · intro hb _; exact absurd hb (by first | decide | (simp; done) | (intro h; revert h; first | decide | (exact fun h => by cases h)))
 clear Hz; intro _ Hz
 refine goCh Hz (.moveZ rfl <| .buildZ rfl fct6 fl49ikn rfl (by dsimp only [setL, List.set] <;> rfl) <| .nil) ?_
 clear Hz Az; intro Az Hz
 refine st_ge Hz rfl rfl rfl rfl (fun K hK => ?_)
 refine e_call Hz Try.func14 rfl rfl rfl rfl (rest_no (planL 3 1 [1, 2] 2 1 spK 8 1) _ _ _ ((m97.rd (i := 25) rfl).any) (by decide) spL _ _ _ _ _ _ _ _ _ _ _ _ _ _ _ _ _) ?_
 rintro e w118 ⟨p118, c118, rfl, hd118, hb118⟩
 have m119 := m97.callF 39 rfl hb118 hd118
 clear m97
 clear hb118 hd118
 refine ⟨_, rfl, ?_⟩; clear Hz Az; intro Az Hz
 refine hK _ _ ?_; clear hK
 refine goCh Hz (.lenZ rfl U31 <| .eqlZ rfl rfl <| .pickT rfl rfl <| .move rfl <| .nil) ?_
 clear Hz Az; intro Az Hz
 refine bool_cases Hz (t := 81) rfl ?_ ?_
 rotate_left
 · intro hb _; exact absurd hb (by first | decide | (simp; done) | (intro h; revert h; first | decide | (exact fun h => by cases h)))
 clear Hz; intro _ Hz
 refine goCh Hz (.moveZ rfl <| .buildZ rfl fct6 fl49ikn rfl (by dsimp only [setL, List.set] <;> rfl) <| .nil) ?_
 clear Hz Az; intro Az Hz
 refine st_ge Hz rfl rfl rfl rfl (fun K hK => ?_)
 refine e_call Hz Try.func16 rfl rfl rfl rfl (done_vol (planL 3 1 [1, 2] 2 1 spK 8 1) _ _ _ ((m119.rd (i := 25) rfl).any) (planH 3 1 [1, 2] 2 1 1) rfl _ _ _ _ _ _ _ _ _ _ _ _ _ _ _ _ (by decide)) ?_
 rintro e w128 ⟨rfl, hb128⟩
 have m129 := m119.later hb128
 clear m119
 clear hb128
 refine ⟨_, rfl, ?_⟩; clear Hz Az; intro Az Hz
 refine hK _ _ ?_; clear hK
 refine goCh Hz (.notZ rfl <| .pickT rfl rfl <| .assign rfl <| .nil) ?_
 clear Hz Az; intro Az Hz
 refine znl (hK4 _ _ ?_); clear hK4
 refine wp_ret ?_
 try dsimp only [Exit.then, Exit.inBlock]
 refine (ret1 (fn := Try.f7) Hz rfl rfl ?_)
 exact ⟨by first | rfl | simp | decide, m129.below⟩
end Go.Proofs.Ytkdnhndjjfjppaa.K
