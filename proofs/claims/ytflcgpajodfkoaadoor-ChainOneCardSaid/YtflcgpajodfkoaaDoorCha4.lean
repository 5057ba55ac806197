/- chain: known; ChainOne's walk. -/
import Derived.Test.YtflcgpajodfkoaaDoorCha4m
namespace Go.Proofs.YtflcgpajodfkoaaDoor.K
open Go.ChangeShapes Go.WideShapes Go.ChangeAt Go.RowKit
set_option linter.unusedVariables false
set_option linter.unusedSimpArgs false
theorem fl35ckn : flatS Tryd.prog 35 [.int .i64 0, .int .i64 0, .int .i64 0, .int .i64 0, .slice none 0 0] = true := by kernel_rfl
theorem fl58ckn : flatS Tryd.prog 58 [.int .i64 0, .slice none 0 0] = true := by kernel_rfl
abbrev kA : StrV := ⟨2, 1, -1, 1, [(0, [120]), (1, [121])]⟩
abbrev kB : StrV := ⟨2, 1, 1, 2, [(1, [122])]⟩
abbrev kM : StrV := ⟨2, 1, -1, 2, [(0, [120]), (1, [122])]⟩
theorem kMrg : mergeV kA kB = kM := by
 unfold mergeV
 simp only [kA, kB]
 rw [later_lt (by decide), later_eq (by decide), later_nil]
theorem kOkA (fr to : Int) (d0 d1 : Int) (h1 : -1 ≤ fr) (h2 : 0 ≤ to ∧ to ≤ 1099511627776) (h3 : fr ≤ to) : StreamOk 2 1 fr to [(0, [d0]), (1, [d1])] := ⟨by decide, by decide, h1, h2, h3, fun _ => rfl, fun k e he => by
 match k, he with
 | 0, he => obtain rfl := (Option.some.inj he).symm; exact ⟨by show (-1 : Int) < 0; decide, by show (0 : Int) < 2; decide, rfl⟩
 | 1, he => obtain rfl := (Option.some.inj he).symm; exact ⟨by show (0 : Int) < 1; decide, by show (1 : Int) < 2; decide, rfl⟩, by simp⟩
theorem kAok : StreamOk kA.bl kA.sz kA.fr kA.to kA.its := kOkA _ _ _ _ (by decide) (by decide) (by decide)
theorem kMok : StreamOk kM.bl kM.sz kM.fr kM.to kM.its := kOkA _ _ _ _ (by decide) (by decide) (by decide)
theorem kBok : StreamOk kB.bl kB.sz kB.fr kB.to kB.its := ⟨by decide, by decide, by decide, by decide, by decide, fun h => absurd h (by decide), fun k e he => by
 match k, he with
 | 0, he => obtain rfl := (Option.some.inj he).symm; decide, by decide⟩
theorem kIo (l : List PI) (h : l.all (fun e => decide (e.2.length ≤ 10)) = true) : ItsOk l := fun e he => by
 have := List.all_eq_true.1 h e he
 have := of_decide_eq_true this
 omega
theorem kAio : ItsOk kA.its := kIo _ rfl
theorem kBio : ItsOk kB.its := kIo _ rfl
theorem kMio : ItsOk kM.its := kIo _ rfl
theorem kFol : FolB kA kB := ⟨rfl, rfl, rfl⟩
theorem kNof : ¬ FolB kB kA := fun h => absurd h.2.2 (by decide)
theorem kOks : ∀ s ∈ [kA, kB], StreamOk s.bl s.sz s.fr s.to s.its := fun s hs => by
 rcases List.mem_cons.1 hs with rfl | hs
 · exact kAok
 rw [List.mem_singleton.1 hs]; exact kBok
theorem kOks1 : ∀ s ∈ [kB], StreamOk s.bl s.sz s.fr s.to s.its := fun s hs => by rw [List.mem_singleton.1 hs]; exact kBok
theorem kIos : ∀ s ∈ [kA, kB], ItsOk s.its := fun s hs => by
 rcases List.mem_cons.1 hs with rfl | hs
 · exact kAio
 rw [List.mem_singleton.1 hs]; exact kBio
theorem kCh : ChainOk [kA, kB] := ⟨by decide, fun i hi => by
 match i, hi with
 | 0, _ => exact (OkAt.of_zero rfl).2 (by decide)
 | 1, _ => exact (OkAt.of_get (by decide) rfl rfl).2 kFol⟩
theorem kNch : ¬ ChainOk [kB] := fun h => absurd ((OkAt.of_zero rfl).1 (h.2 0 (by decide))) (by decide)
def incV (y : VolV) (t : Nat) : StrV := ⟨y.bl, y.sz, 0, t, segIt y (-1) t y.bl.toNat⟩
theorem kStr (h : ((strOfNums [122]).toList == (⟨#[122]⟩ : ByteArray).toList) = false) : False := by
 rw [show strOfNums [122] = (⟨#[122]⟩ : ByteArray) from rfl] at h
 simp at h
theorem inc_no (y : VolV) (t : Nat) : ¬ ChainOk [incV y t] := fun h => absurd ((OkAt.of_zero rfl).1 (h.2 0 (by simp))) (show ¬ (0 : Int) < 0 by decide)
theorem one_seg {y : VolV} {ss : List StrV} (h : SegCh y (-1) ss) (hl : ss.length = 1) : ∃ t : Nat, t ≤ y.ws.length ∧ ss = [seg y (-1) t] := by
 match ss, hl, h with
 | [s], _, ⟨t, _, h2, h3, _⟩ => exact ⟨t, h2, by rw [h3]⟩
set_option maxRecDepth 100000
set_option maxHeartbeats 4000000
theorem cknown_any (w0 : World) : Calls Tryd.prog 8 #[] w0 fun e w' => e = .returned (.bool true) ∧ Below w0.heap.size w0 w' := by
 refine ent0 Tryd.func8 rfl Tryd.ntmps8 fun Az Hz => ?_
 have m0 := MemOk.start (fun _ => False) w0
 refine regS Hz (.assign rfl <| .nil) ?_
 clear Hz Az; intro Az Hz
 refine sr fun K0 hK0 => ?_
 refine st_const Hz m0 20 rfl rfl U22 U5 fct1 rfl rfl rfl rfl rfl ?_
 clear Hz Az m0; intro g2 a2 w2 ha2 m2
 refine goCh ha2 (.build rfl fct3 fl58ckn rfl (by dsimp only [setL, List.set] <;> rfl) .nil) ?_
 clear ha2 a2; intro a2 ha2
 refine st_const ha2 m2 21 rfl rfl U22 U5 fct1 rfl rfl rfl rfl rfl ?_
 clear ha2 a2 m2; intro g4 a4 w4 ha4 m4
 refine goCh ha4 (.build rfl fct3 fl58ckn rfl (by dsimp only [setL, List.set] <;> rfl) .nil) ?_
 clear ha4 a4; intro a4 ha4
 refine wpList_plain rfl (fun K hK => ?_)
 refine e_litR ha4 m4 22 (mm := 2) rfl (.cons rfl rfl (.cons (.v _) (.cons (m4.rd (i := 20) rfl) .nil)) <| .cons rfl rfl (.cons (.v _) (.cons (m4.rd (i := 21) rfl) .nil)) <| .nil) U33 fct4 rfl rfl rfl rfl rfl ?_
 clear ha4 a4 m4; intro g6 Az w7 Hz m7
 refine hK _ _ ?_; clear hK
 refine goCh Hz (.build rfl fct21 fl35ckn rfl (by dsimp only [setL, List.set] <;> rfl) .nil) ?_
 clear Hz Az; intro Az Hz
 refine wpList_plain rfl (fun K hK => ?_)
 refine e_alloc Hz m7 23 fct21 rfl ?_
 clear Hz Az m7; intro g9 Az w10 Hz m10 hB10 hg10
 clear hB10 hg10
 refine hK _ _ ?_; clear hK
 refine wpList_plain rfl (fun K hK => ?_)
 refine e_storeW Hz m10 23 rfl rfl rfl rfl rfl fct7 ?_
 clear m10; intro w11 m11 hB11
 clear hB11
 refine hK _ _ ?_; clear hK
 refine nl (hK0 _ _ ?_); clear hK0
 replace Hz : Has 104 [(0, _), (1, _)] Az := Hz.only [0, 1]
 refine sr fun K1 hK1 => ?_
 refine st_const Hz m11 24 rfl rfl U22 U5 fct1 rfl rfl rfl rfl rfl ?_
 clear Hz Az m11; intro g13 a13 w13 ha13 m13
 refine goCh ha13 (.build rfl fct3 fl58ckn rfl (by dsimp only [setL, List.set] <;> rfl) .nil) ?_
 clear ha13 a13; intro a13 ha13
 refine wpList_plain rfl (fun K hK => ?_)
 refine e_litR ha13 m13 25 (mm := 2) rfl (.cons rfl rfl (.cons (.v _) (.cons (m13.rd (i := 24) rfl) .nil)) <| .nil) U33 fct4 rfl rfl rfl rfl rfl ?_
 clear ha13 a13 m13; intro g15 Az w16 Hz m16
 refine hK _ _ ?_; clear hK
 refine goCh Hz (.build rfl fct21 fl35ckn rfl (by dsimp only [setL, List.set] <;> rfl) .nil) ?_
 clear Hz Az; intro Az Hz
 refine wpList_plain rfl (fun K hK => ?_)
 refine e_alloc Hz m16 26 fct21 rfl ?_
 clear Hz Az m16; intro g18 Az w19 Hz m19 hB19 hg19
 clear hB19 hg19
 refine hK _ _ ?_; clear hK
 refine wpList_plain rfl (fun K hK => ?_)
 refine e_storeW Hz m19 26 rfl rfl rfl rfl rfl fct7 ?_
 clear m19; intro w20 m20 hB20
 clear hB20
 refine hK _ _ ?_; clear hK
 refine nl (hK1 _ _ ?_); clear hK1
 refine sr fun K2 hK2 => ?_
 refine goCh Hz (.loadBR m20 (i := 23) rfl rfl U35 rfl fct7 (by simp) (by dsimp only [List.drop, List.take] <;> rfl) <| .loadBR m20 (i := 26) rfl rfl U35 rfl fct7 (by simp) (by dsimp only [List.drop, List.take] <;> rfl) <| .nil) ?_
 clear Hz Az; intro Az Hz
 have m25 := m20.freezeR 22 rfl; clear m20
 have m26 := m25.freezeR 25 rfl; clear m25
 refine wpList_plain rfl (fun K hK => ?_)
 refine e_call Hz Tryd.func11 rfl rfl rfl rfl (merge_yes kA kB _ _ _ _ _ _ _ ((m26.rd (i := 22) rfl).any) ((m26.rd (i := 25) rfl).any) kAok kBok kAio kBio kFol) ?_
 rintro e w27 ⟨p27, c27, rfl, hd27, hb27⟩
 rw [kMrg] at hd27 ⊢
 have m28 := m26.callF 27 rfl hb27 hd27
 clear m26
 clear hb27 hd27
 refine ⟨_, rfl, ?_⟩; clear Hz Az; intro Az Hz
 refine hK _ _ ?_; clear hK
 refine goCh Hz (.move rfl <| .extract rfl rfl <| .extract rfl rfl <| .nil) ?_
 clear Hz Az; intro Az Hz
 refine wpList_plain rfl (fun K hK => ?_)
 refine e_alloc Hz m28 28 fct21 rfl ?_
 clear Hz Az m28; intro g33 Az w34 Hz m34 hB34 hg34
 clear hB34 hg34
 refine hK _ _ ?_; clear hK
 refine wpList_plain rfl (fun K hK => ?_)
 refine e_storeW Hz m34 28 rfl rfl rfl rfl rfl fct7 ?_
 clear m34; intro w35 m35 hB35
 clear hB35
 refine hK _ _ ?_; clear hK
 refine goCh Hz (.assign rfl .nil) ?_
 clear Hz Az; intro Az Hz
 refine nl (hK2 _ _ ?_); clear hK2
 replace Hz : Has 104 [(0, _), (1, _), (2, _), (3, _), (4, _)] Az := Hz.only [0, 1, 2, 3, 4]
 refine sr fun K3 hK3 => ?_
 refine goCh Hz (.loadBR m35 (i := 26) rfl rfl U35 rfl fct7 (by simp) (by dsimp only [List.drop, List.take] <;> rfl) <| .loadBR m35 (i := 23) rfl rfl U35 rfl fct7 (by simp) (by dsimp only [List.drop, List.take] <;> rfl) <| .nil) ?_
 clear Hz Az; intro Az Hz
 refine wpList_plain rfl (fun K hK => ?_)
 refine e_call Hz Tryd.func11 rfl rfl rfl rfl (merge_no kB kA _ _ _ _ _ _ _ ((m35.rd (i := 25) rfl).any) ((m35.rd (i := 22) rfl).any) kBok kAok kNof) ?_
 rintro e w42 ⟨rfl, hb42⟩
 have m43 := m35.later hb42
 clear m35
 clear hb42
 refine ⟨_, rfl, ?_⟩; clear Hz Az; intro Az Hz
 refine hK _ _ ?_; clear hK
 refine goCh Hz (.move rfl <| .extract rfl rfl <| .extract rfl rfl <| .nil) ?_
 clear Hz Az; intro Az Hz
 refine wpList_plain rfl (fun K hK => ?_)
 refine e_alloc Hz m43 30 fct21 rfl ?_
 clear Hz Az m43; intro g48 Az w49 Hz m49 hB49 hg49
 clear hB49 hg49
 refine hK _ _ ?_; clear hK
 refine wpList_plain rfl (fun K hK => ?_)
 refine e_storeW Hz m49 30 rfl rfl rfl rfl rfl fct7 ?_
 clear m49; intro w50 m50 hB50
 clear hB50
 refine hK _ _ ?_; clear hK
 refine goCh Hz (.assign rfl .nil) ?_
 clear Hz Az; intro Az Hz
 refine nl (hK3 _ _ ?_); clear hK3
 replace Hz : Has 104 [(0, _), (1, _), (2, _), (3, _), (4, _), (6, _)] Az := Hz.only [0, 1, 2, 3, 4, 6]
 refine sr fun K4 hK4 => ?_
 refine goCh Hz (.loadBR m50 (i := 23) rfl rfl U35 rfl fct7 (by simp) (by dsimp only [List.drop, List.take] <;> rfl) <| .loadBR m50 (i := 26) rfl rfl U35 rfl fct7 (by simp) (by dsimp only [List.drop, List.take] <;> rfl) <| .nil) ?_
 clear Hz Az; intro Az Hz
 refine wpList_plain rfl (fun K hK => ?_)
 refine e_litR Hz m50 31 (mm := 5) rfl (.cons rfl rfl (.cons (.v _) (.cons (.v _) (.cons (.v _) (.cons (.v _) (.cons (m50.rd (i := 22) rfl) .nil))))) <| .cons rfl rfl (.cons (.v _) (.cons (.v _) (.cons (.v _) (.cons (.v _) (.cons (m50.rd (i := 25) rfl) .nil))))) <| .nil) U25 fct20 rfl rfl rfl rfl rfl ?_
 clear Hz Az m50; intro g57 Az w58 Hz m58
 refine hK _ _ ?_; clear hK
 have m59 := m58.freezeR 31 rfl; clear m58
 refine wpList_plain rfl (fun K hK => ?_)
 refine e_call Hz Tryd.func10 rfl rfl rfl rfl (all_yes [kA, kB] _ _ _ _ ((m59.rd (i := 31) rfl).any) (by decide) kOks kCh (by decide) kIos) ?_
 rintro e w60 ⟨sv, p60, c60, hE, hsl, hso, rfl, hd60, hb60⟩
 obtain rfl : sv = kM := hE.pair.trans kMrg
 have m61 := m59.callF 32 rfl hb60 hd60
 clear m59
 clear hb60 hd60
 refine ⟨_, rfl, ?_⟩; clear Hz Az; intro Az Hz
 refine hK _ _ ?_; clear hK
 refine goCh Hz (.move rfl <| .extract rfl rfl <| .extract rfl rfl <| .nil) ?_
 clear Hz Az; intro Az Hz
 refine wpList_plain rfl (fun K hK => ?_)
 refine e_alloc Hz m61 33 fct21 rfl ?_
 clear Hz Az m61; intro g66 Az w67 Hz m67 hB67 hg67
 clear hB67 hg67
 refine hK _ _ ?_; clear hK
 refine wpList_plain rfl (fun K hK => ?_)
 refine e_storeW Hz m67 33 rfl rfl rfl rfl rfl fct7 ?_
 clear m67; intro w68 m68 hB68
 clear hB68
 refine hK _ _ ?_; clear hK
 refine goCh Hz (.assign rfl .nil) ?_
 clear Hz Az; intro Az Hz
 refine nl (hK4 _ _ ?_); clear hK4
 replace Hz : Has 104 [(0, _), (1, _), (2, _), (3, _), (4, _), (6, _), (7, _), (8, _)] Az := Hz.only [0, 1, 2, 3, 4, 6, 7, 8]
 refine sr fun K5 hK5 => ?_
 refine goCh Hz (.loadBR m68 (i := 33) rfl rfl U35 rfl fct7 (by simp) (by dsimp only [List.drop, List.take] <;> rfl) .nil) ?_
 clear Hz Az; intro Az Hz
 refine wpList_plain rfl (fun K hK => ?_)
 refine e_call Hz Tryd.func15 rfl rfl rfl rfl (blocks_yes kM _ _ _ _ ((m68.rd (i := 32) rfl).any) kMok kMio (by decide)) ?_
 rintro e w73 ⟨p73, c73, rfl, hd73, hb73⟩
 have m74 := m68.callF 34 rfl hb73 hd73
 clear m68
 clear hb73 hd73
 refine ⟨_, rfl, ?_⟩; clear Hz Az; intro Az Hz
 refine hK _ _ ?_; clear hK
 refine goCh Hz (.assign rfl .nil) ?_
 clear Hz Az; intro Az Hz
 refine nl (hK5 _ _ ?_); clear hK5
 refine sr fun K6 hK6 => ?_
 refine wpList_plain rfl (fun K hK => ?_)
 refine e_call Hz Tryd.func17 rfl rfl rfl rfl (decode_none _) ?_
 rintro e w77 ⟨rfl, hb77⟩
 have m78 := m74.later hb77
 clear m74
 clear hb77
 refine ⟨_, rfl, ?_⟩; clear Hz Az; intro Az Hz
 refine hK _ _ ?_; clear hK
 refine goCh Hz (.move rfl <| .extract rfl rfl <| .extract rfl rfl <| .extract rfl rfl <| .assign rfl <| .assign rfl <| .assign rfl <| .nil) ?_
 clear Hz Az; intro Az Hz
 refine nl (hK6 _ _ ?_); clear hK6
 replace Hz : Has 104 [(0, _), (1, _), (2, _), (3, _), (4, _), (6, _), (7, _), (8, _), (9, _), (11, _), (12, _)] Az := Hz.only [0, 1, 2, 3, 4, 6, 7, 8, 9, 11, 12]
 refine sr fun K7 hK7 => ?_
 refine goCh Hz (.move rfl <| .eql rfl rfl <| .move rfl <| .nil) ?_
 clear Hz Az; intro Az Hz
 refine bool_cases Hz (t := 54) rfl ?_ ?_
 rotate_left
 · intro hb _; exact absurd hb (by first | exact fun h => kStr h | decide | (simp; done) | (intro h; revert h; first | decide | (exact fun h => by cases h)))
 clear Hz; intro _ Hz
 refine goCh Hz (.loadBRZ m78 (i := 28) rfl rfl U35 rfl fct7 (by simp) (by dsimp only [List.drop, List.take] <;> rfl) <| .loadBRZ m78 (i := 33) rfl rfl U35 rfl fct7 (by simp) (by dsimp only [List.drop, List.take] <;> rfl) <| .nil) ?_
 clear Hz Az; intro Az Hz
 refine st_ge Hz rfl rfl rfl rfl (fun K hK => ?_)
 refine e_call Hz Tryd.func13 rfl rfl rfl rfl (streams_same kM _ _ _ _ _ _ _ ((m78.rd (i := 27) rfl).any) ((m78.rd (i := 32) rfl).any) (by decide)) ?_
 rintro e w97 ⟨rfl, hb97⟩
 have m98 := m78.later hb97
 clear m78
 clear hb97
 refine ⟨_, rfl, ?_⟩; clear Hz Az; intro Az Hz
 refine hK _ _ ?_; clear hK
 refine goCh Hz (.pickT rfl rfl <| .move rfl <| .moveZ rfl <| .eqlZ rfl rfl <| .pickT rfl rfl <| .move rfl <| .nil) ?_
 clear Hz Az; intro Az Hz
 refine bool_cases Hz (t := 63) rfl ?_ ?_
 rotate_left
 · intro hb _; exact absurd hb (by first | exact fun h => kStr h | decide | (simp; done) | (intro h; revert h; first | decide | (exact fun h => by cases h)))
 clear Hz; intro _ Hz
 refine goCh Hz (.moveZ rfl <| .eqlZ rfl rfl <| .pickT rfl rfl <| .move rfl <| .nil) ?_
 clear Hz Az; intro Az Hz
 refine bool_cases Hz (t := 67) rfl ?_ ?_
 rotate_left
 · intro hb _; exact absurd hb (by first | exact fun h => kStr h | decide | (simp; done) | (intro h; revert h; first | decide | (exact fun h => by cases h)))
 clear Hz; intro _ Hz
 refine goCh Hz (.moveZ rfl <| .lenZ rfl U40 <| .eqlZ rfl rfl <| .pickT rfl rfl <| .move rfl <| .nil) ?_
 clear Hz Az; intro Az Hz
 refine bool_cases Hz (t := 72) rfl ?_ ?_
 rotate_left
 · intro hb _; exact absurd hb (by first | exact fun h => kStr h | decide | (simp; done) | (intro h; revert h; first | decide | (exact fun h => by cases h)))
 clear Hz; intro _ Hz
 refine goCh Hz (.moveZ rfl .nil) ?_
 clear Hz Az; intro Az Hz
 obtain ⟨b119, o119, vs119, hp119, hR119, ho119, m119⟩ := m98.openR (i := 34) rfl (1) (r := [.ns .u8 [122]]) rfl 35 rfl
 cases hp119; clear m98 ho119
 rcases hR119 with _ | ⟨hd119_0, _ | _⟩
 obtain ⟨p120, c120, hv120, hc120⟩ := hd119_0.ns_shape; subst hv120
 have m120 := m119.dat 36 rfl (hd119_0.cast (fun _ h => (free_add rfl h))); clear m119 hd119_0
 refine goCh Hz (.g rfl rfl rfl rfl (fun _ h => y_idx h rfl rfl U40 fct0 (1) rfl (by decide)) <| .loadC0Z m120 (i := 35) rfl rfl U22 rfl <| .strZ rfl (m120.nums (i := 36) rfl) U22 U5 U9 <| .eqlSZ rfl rfl <| .pickT rfl rfl <| .move rfl <| .nil) ?_
 clear Hz Az; intro Az Hz
 refine bool_cases Hz (t := 79) rfl ?_ ?_
 rotate_left
 · intro hb _; exact absurd hb (by first | exact fun h => kStr h | decide | (simp; done) | (intro h; revert h; first | decide | (exact fun h => by cases h)))
 clear Hz; intro _ Hz
 refine goCh Hz (.loadBRZ m120 (i := 23) rfl rfl U35 rfl fct7 (by simp) (by dsimp only [List.drop, List.take] <;> rfl) <| .loadBRZ m120 (i := 26) rfl rfl U35 rfl fct7 (by simp) (by dsimp only [List.drop, List.take] <;> rfl) <| .nil) ?_
 clear Hz Az; intro Az Hz
 refine st_ge Hz rfl rfl rfl rfl (fun K hK => ?_)
 refine e_litR Hz m120 37 (mm := 5) rfl (.cons rfl rfl (.cons (.v _) (.cons (.v _) (.cons (.v _) (.cons (.v _) (.cons (m120.rd (i := 22) rfl) .nil))))) <| .cons rfl rfl (.cons (.v _) (.cons (.v _) (.cons (.v _) (.cons (.v _) (.cons (m120.rd (i := 25) rfl) .nil))))) <| .nil) U25 fct20 rfl rfl rfl rfl rfl ?_
 clear Hz Az m120; intro g130 Az w131 Hz m131
 refine hK _ _ ?_; clear hK
 have m132 := m131.freezeR 37 rfl; clear m131
 refine st_ge Hz rfl rfl rfl rfl (fun K hK => ?_)
 refine e_call Hz Tryd.func19 rfl rfl rfl rfl (cright_any [kA, kB] _ _ _ _ ((m132.rd (i := 37) rfl).any) (by decide) kOks) ?_
 rintro e w133 ⟨rb, rfl, hrb, hb133⟩
 obtain rfl : rb = true := hrb.2 kCh
 have m134 := m132.later hb133
 clear m132
 clear hb133
 refine ⟨_, rfl, ?_⟩; clear Hz Az; intro Az Hz
 refine hK _ _ ?_; clear hK
 refine goCh Hz (.pickT rfl rfl <| .move rfl <| .loadBRZ m134 (i := 26) rfl rfl U35 rfl fct7 (by simp) (by dsimp only [List.drop, List.take] <;> rfl) <| .nil) ?_
 clear Hz Az; intro Az Hz
 refine st_ge Hz rfl rfl rfl rfl (fun K hK => ?_)
 refine e_litR Hz m134 38 (mm := 5) rfl (.cons rfl rfl (.cons (.v _) (.cons (.v _) (.cons (.v _) (.cons (.v _) (.cons (m134.rd (i := 25) rfl) .nil))))) <| .nil) U25 fct20 rfl rfl rfl rfl rfl ?_
 clear Hz Az m134; intro g139 Az w140 Hz m140
 refine hK _ _ ?_; clear hK
 have m141 := m140.freezeR 38 rfl; clear m140
 refine st_ge Hz rfl rfl rfl rfl (fun K hK => ?_)
 refine e_call Hz Tryd.func19 rfl rfl rfl rfl (cright_any [kB] _ _ _ _ ((m141.rd (i := 38) rfl).any) (by decide) kOks1) ?_
 rintro e w142 ⟨rb, rfl, hrb, hb142⟩
 obtain rfl : rb = false := by cases rb; rfl; exact absurd (hrb.1 rfl) kNch
 have m143 := m141.later hb142
 clear m141
 clear hb142
 refine ⟨_, rfl, ?_⟩; clear Hz Az; intro Az Hz
 refine hK _ _ ?_; clear hK
 refine goCh Hz (.notZ rfl <| .pickT rfl rfl <| .move rfl <| .loadBRZ m143 (i := 23) rfl rfl U35 rfl fct7 (by simp) (by dsimp only [List.drop, List.take] <;> rfl) <| .loadBRZ m143 (i := 26) rfl rfl U35 rfl fct7 (by simp) (by dsimp only [List.drop, List.take] <;> rfl) <| .nil) ?_
 clear Hz Az; intro Az Hz
 refine st_ge Hz rfl rfl rfl rfl (fun K hK => ?_)
 refine e_call Hz Tryd.func20 rfl rfl rfl rfl (follows_any kA kB _ _ _ _ _ _ _ ((m143.rd (i := 22) rfl).any) ((m143.rd (i := 25) rfl).any) kAok kBok) ?_
 rintro e w150 ⟨fb, rfl, hfb, hb150⟩
 obtain rfl : fb = true := hfb.2 kFol
 have m151 := m143.later hb150
 clear m143
 clear hb150
 refine ⟨_, rfl, ?_⟩; clear Hz Az; intro Az Hz
 refine hK _ _ ?_; clear hK
 refine goCh Hz (.pickT rfl rfl <| .move rfl <| .moveZ rfl <| .eqlZ rfl rfl <| .pickT rfl rfl <| .move rfl <| .nil) ?_
 clear Hz Az; intro Az Hz
 refine bool_cases Hz (t := 100) rfl ?_ ?_
 rotate_left
 · intro hb _; exact absurd hb (by first | exact fun h => kStr h | decide | (simp; done) | (intro h; revert h; first | decide | (exact fun h => by cases h)))
 clear Hz; intro _ Hz
 refine goCh Hz (.moveZ rfl <| .eqlZ rfl rfl <| .pickT rfl rfl <| .assign rfl <| .nil) ?_
 clear Hz Az; intro Az Hz
 refine nl (hK7 _ _ ?_); clear hK7
 refine wp_ret ?_
 try dsimp only [Exit.then, Exit.inBlock]
 refine (ret1 (fn := Tryd.f8) Hz rfl rfl ?_)
 exact ⟨by first | rfl | simp | decide, m151.below⟩
theorem one_walk (l : List Int) (pl : Option Addr) (cl : Nat) (t9 : Int) (w0 : World) (h1 : Rd (fun _ => True) w0 (.slice pl l.length cl) (.ns .u8 l)) (hlb : ∀ j, j < l.length → 0 ≤ l.getD j 0 ∧ l.getD j 0 ≤ 255) (ht9 : 0 ≤ t9 ∧ t9 ≤ 255) :
   Calls Tryd.prog 7 #[.slice pl l.length cl, .int .u8 t9] w0 fun e w' => e = .returned (.bool true) ∧ Below w0.heap.size w0 w' := by
 refine ent2 Tryd.func7 rfl Tryd.ntmps7 fun Az Hz => ?_
 have m0 := MemOk.start (fun _ => False) w0
 refine regS Hz (.assign rfl <| .nil) ?_
 clear Hz Az; intro Az Hz
 refine wp_seq_k (fun K0 hK0 => ?_)
 refine sr fun K1 hK1 => ?_
 refine wpList_plain rfl (fun K hK => ?_)
 refine e_call Hz Tryd.func8 rfl rfl rfl rfl (cknown_any _) ?_
 rintro e w2 ⟨rfl, hb2⟩
 have m3 := m0.later hb2
 clear m0
 clear hb2
 refine ⟨_, rfl, ?_⟩; clear Hz Az; intro Az Hz
 refine hK _ _ ?_; clear hK
 refine goCh Hz (.not rfl .nil) ?_
 clear Hz Az; intro Az Hz
 refine nl (hK1 _ _ ?_); clear hK1
 refine wp_cond_false (Hz.ev (x := .tmp 17) rfl) ?_
 refine ss (hK0 _ _ ?_); clear hK0
 refine wp_seq_k (fun K2 hK2 => ?_)
 refine regS Hz (.move rfl <| .len rfl U22 <| .gtr rfl rfl <| .nil) ?_
 clear Hz Az; intro Az Hz
 refine bool_cases Hz (t := 20) rfl ?_ ?_
 ·
  clear Hz; intro hb9 Hz; try simp only [QQ, Qax] at hb9
  refine wp_cond_true (Hz.ev (x := .tmp 20) rfl) ?_
  refine regS Hz (.assign rfl <| .nil) ?_
  clear Hz Az; intro Az Hz
  refine wp_ret ?_
  try dsimp only [Exit.then, Exit.inBlock]
  refine (ret1 (fn := Tryd.f7) Hz rfl rfl ?_)
  exact ⟨by first | rfl | simp, m3.below⟩
 clear Hz; intro hb9 Hz; try simp only [QQ, Qax] at hb9
 have hl60 : l.length ≤ 60 := by have := hb9; first | omega | (simp at this; omega)
 refine wp_cond_false (Hz.ev (x := .tmp 20) rfl) ?_
 refine ss (hK2 _ _ ?_); clear hK2
 refine sr fun K3 hK3 => ?_
 refine goCh Hz (.move rfl <| .move rfl <| .nil) ?_
 clear Hz Az; intro Az Hz
 refine wpList_plain rfl (fun K hK => ?_)
 refine e_litN Hz m3 70 (k := .u8) rfl rfl U22 fct1 rfl rfl rfl rfl ?_
 clear Hz Az m3; intro g15 Az w16 Hz m16
 refine hK _ _ ?_; clear hK
 have m17 := m16.freezeN 70 rfl; clear m16
 refine wpList_plain rfl (fun K hK => ?_)
 refine e_call Hz Tryd.func9 rfl rfl rfl rfl (streams_any l [t9] _ _ _ _ _ ((h1.now' m17 rfl).any) ((m17.rd (i := 70) rfl).any) (by omega) hlb (by simp) (fun j hj => by simp at hj; subst hj; exact ht9)) ?_
 rintro e w18 ⟨y, ss, p18, pp18, pn18, pw18, c18, np18, cp18, nn18, cn18, cw18, rfl, hS, hsl, hsg, hd18, he18, hb18⟩
 have m19 := m17.callF2 71 72 rfl rfl hb18 hd18 he18
 clear m17
 clear hb18 hd18 he18
 have hsm := hS.sm
 have hok := hsg.oks hS (by omega) (by omega)
 have hss9 : ss.length ≤ 8 := by rw [hsl]; simp
 have htot : totL ss ≤ 1000000 := by have := tot_bd (fun s hs => (hok s hs).1.len); omega
 obtain ⟨t, htw, rfl⟩ : ∃ t : Nat, t ≤ y.ws.length ∧ ss = [seg y (-1) t] := one_seg hsg hsl
 have hinc : StreamOk y.bl y.sz 0 t (segIt y (-1) t y.bl.toNat) := (seg_ok hS (by omega) (by omega) (by simp) htw (.inr rfl)).1
 have hbl9 := hinc.b
 refine ⟨_, rfl, ?_⟩; clear Hz Az; intro Az Hz
 refine hK _ _ ?_; clear hK
 refine goCh Hz (.move rfl <| .extract rfl rfl <| .extract rfl rfl <| .nil) ?_
 clear Hz Az; intro Az Hz
 refine wpList_plain rfl (fun K hK => ?_)
 refine e_alloc Hz m19 73 fct12 rfl ?_
 clear Hz Az m19; intro g24 Az w25 Hz m25 hB25 hg25
 clear hB25 hg25
 refine hK _ _ ?_; clear hK
 refine goCh Hz (.assign rfl .nil) ?_
 clear Hz Az; intro Az Hz
 refine wpList_plain rfl (fun K hK => ?_)
 refine e_storeW Hz m25 73 rfl rfl rfl rfl rfl fct10 ?_
 clear m25; intro w27 m27 hB27
 clear hB27
 refine hK _ _ ?_; clear hK
 refine nl (hK3 _ _ ?_); clear hK3
 replace Hz : Has 93 [(4, _), (6, _), (5, _)] Az := Hz.only [4, 6, 5]
 refine sr fun K4 hK4 => ?_
 refine goCh Hz (.move rfl .nil) ?_
 clear Hz Az; intro Az Hz
 refine wpList_plain rfl (fun K hK => ?_)
 refine e_call Hz Tryd.func10 rfl rfl rfl rfl (all_yes [(seg y (-1) t)] _ _ _ _ ((m27.rd (i := 71) rfl).any) (by simp) (fun s hs => (hok s hs).1) (hsg.chain (by simp)) htot (fun s hs => (hok s hs).2)) ?_
 rintro e w31 ⟨sv, p31, c31, hE, hsl9, hso, rfl, hd31, hb31⟩
 obtain rfl : sv = (seg y (-1) t) := hE.single
 have m32 := m27.callF 74 rfl hb31 hd31
 clear m27
 clear hb31 hd31
 refine ⟨_, rfl, ?_⟩; clear Hz Az; intro Az Hz
 refine hK _ _ ?_; clear hK
 refine goCh Hz (.move rfl <| .extract rfl rfl <| .extract rfl rfl <| .nil) ?_
 clear Hz Az; intro Az Hz
 refine wpList_plain rfl (fun K hK => ?_)
 refine e_alloc Hz m32 75 fct21 rfl ?_
 clear Hz Az m32; intro g37 Az w38 Hz m38 hB38 hg38
 clear hB38 hg38
 refine hK _ _ ?_; clear hK
 refine wpList_plain rfl (fun K hK => ?_)
 refine e_storeW Hz m38 75 rfl rfl rfl rfl rfl fct7 ?_
 clear m38; intro w39 m39 hB39
 clear hB39
 refine hK _ _ ?_; clear hK
 refine goCh Hz (.assign rfl .nil) ?_
 clear Hz Az; intro Az Hz
 refine nl (hK4 _ _ ?_); clear hK4
 refine wp_seq_k (fun K5 hK5 => ?_)
 obtain ⟨b41, o41, vs41, hp41, hR41, ho41, m41⟩ := m39.openR (i := 71) rfl (0) (r := [.v (.int .i64 (seg y (-1) t).bl), .v (.int .i64 (seg y (-1) t).sz), .v (.int .i64 (seg y (-1) t).fr), .v (.int .i64 (seg y (-1) t).to), .l 2 ((seg y (-1) t).its.map itD)]) rfl 76 rfl
 cases hp41; clear m39 ho41
 rcases hR41 with _ | ⟨hd41_0, _ | ⟨hd41_1, _ | ⟨hd41_2, _ | ⟨hd41_3, _ | ⟨hd41_4, _ | _⟩⟩⟩⟩⟩
 obtain rfl := hd41_0.v_out
 clear hd41_0
 obtain rfl := hd41_1.v_out
 clear hd41_1
 obtain rfl := hd41_2.v_out
 clear hd41_2
 obtain rfl := hd41_3.v_out
 clear hd41_3
 obtain ⟨p42, c42, hv42, hc42⟩ := hd41_4.l_shape; subst hv42
 have m42 := m41.dat 77 rfl (hd41_4.cast (fun _ h => (free_add rfl h))); clear m41 hd41_4
 have m43 : MemOk _ _ [(70, _), (71, _), (72, _), (73, _), (74, _), (75, _), (76, _), (77, _)] _ := m42.only [70, 71, 72, 73, 74, 75, 76, 77]; clear m42
 refine region_p 11 (B := [(70, _), (71, _), (72, _), (73, _), (74, _), (75, _), (76, _), (77, _)]) (m43.to ⟨il, il, il, il, il, il, il, il, trivial⟩) m43 (by kernel_rfl) (fun w44 hP44 m44 => ?_); clear m43
 refine goR hP44 [0, 1, 2, 3, 4] [0, 4] 5 0 31 Hz (m44.to ⟨il, il, il, il, il, il, il, il, trivial⟩) (.loadBR hh (i := 73) rfl rfl U30 rfl fct10 (by simp) (by dsimp only [List.drop, List.take] <;> rfl) <| .move rfl <| .p (fun _ _ h => y_idx h rfl rfl U25 fct7 (0) rfl (by simp)) <| .fieldAddrQ 3 rfl U35 rfl (s := 0) (by kernel_rfl) rfl <| .loadC1 hh (i := 76) (q := 3) rfl rfl rfl U2 rfl <| .nil) ?_
 clear Hz Az; intro Az Hz
 refine stepE_only 5 rfl (by kernel_rfl) rfl (fun K hK => ?_)
 refine e_call Hz Tryd.func12 rfl rfl rfl rfl (rstate_g _ y _ hS (by omega) _ _ _ _ _ _ _ _ 0 _ t rfl _ (fun b hb => (List.not_mem_nil (a := b)) hb) (by first | omega | (simp only [seg]; omega)) htw (m44.into [(3, 72)] (by decide) rfl)) ?_
 rintro e w50 ⟨p50, c50, rfl, hm50⟩
 have mx50 := m44.back hm50 [(72, 3), (78, 9)] (by decide); clear hm50 m44
 have m50 : MemOk _ _ [(72, _), (78, _), (70, _), (71, _), (73, _), (74, _), (75, _), (76, _), (77, _)] _ := mx50.only [72, 78, 70, 71, 73, 74, 75, 76, 77]; clear mx50
 refine ⟨_, rfl, ?_⟩; clear Hz Az; intro Az Hz
 refine hK _ _ (m50.to ⟨il, il, il, il, il, il, il, il, trivial⟩) ?_; clear hK K
 refine goA hP44 [6, 7, 8, 9, 10] 5 63 2047 Hz (m50.to ⟨il, il, il, il, il, il, il, il, trivial⟩) (.move rfl <| .extract rfl rfl <| .extract rfl rfl <| .assign rfl <| .assign rfl <| .nil) ?_
 clear Hz Az; intro Az Hz
 refine wpAnyE_done (by kernel_rfl) ?_ _
 refine hK5 _ _ ?_; clear hK5
 replace Hz : Has 93 [(4, _), (5, _), (7, _), (8, _), (9, _)] Az := Hz.only [4, 5, 7, 8, 9]
 refine sr fun K6 hK6 => ?_
 refine wpList_plain rfl (fun K hK => ?_)
 refine e_call Hz Tryd.func10 rfl rfl rfl rfl (all_no [] _ _ _ _ (.l0 _ _ _) (by decide) (fun s hs => by cases hs) (fun h => absurd h.1 (by decide))) ?_
 rintro e w58 ⟨rfl, hb58⟩
 have m59 := m50.later hb58
 clear m50
 clear hb58
 refine ⟨_, rfl, ?_⟩; clear Hz Az; intro Az Hz
 refine hK _ _ ?_; clear hK
 refine goCh Hz (.move rfl <| .extract rfl rfl <| .extract rfl rfl <| .nil) ?_
 clear Hz Az; intro Az Hz
 refine wpList_plain rfl (fun K hK => ?_)
 refine e_alloc Hz m59 79 fct21 rfl ?_
 clear Hz Az m59; intro g64 Az w65 Hz m65 hB65 hg65
 clear hB65 hg65
 refine hK _ _ ?_; clear hK
 refine wpList_plain rfl (fun K hK => ?_)
 refine e_storeW Hz m65 79 rfl rfl rfl rfl rfl fct7 ?_
 clear m65; intro w66 m66 hB66
 clear hB66
 refine hK _ _ ?_; clear hK
 refine goCh Hz (.assign rfl .nil) ?_
 clear Hz Az; intro Az Hz
 refine nl (hK6 _ _ ?_); clear hK6
 refine sr fun K7 hK7 => ?_
 refine goCh Hz (.move rfl .nil) ?_
 clear Hz Az; intro Az Hz
 obtain ⟨b71, o71, vs71, hp71, hR71, ho71, m71⟩ := m66.openR (i := 71) rfl (0) (r := [.v (.int .i64 (seg y (-1) t).bl), .v (.int .i64 (seg y (-1) t).sz), .v (.int .i64 (seg y (-1) t).fr), .v (.int .i64 (seg y (-1) t).to), .l 2 ((seg y (-1) t).its.map itD)]) rfl 80 rfl
 cases hp71; clear m66 ho71
 rcases hR71 with _ | ⟨hd71_0, _ | ⟨hd71_1, _ | ⟨hd71_2, _ | ⟨hd71_3, _ | ⟨hd71_4, _ | _⟩⟩⟩⟩⟩
 obtain rfl := hd71_0.v_out
 clear hd71_0
 obtain rfl := hd71_1.v_out
 clear hd71_1
 obtain rfl := hd71_2.v_out
 clear hd71_2
 obtain rfl := hd71_3.v_out
 clear hd71_3
 obtain ⟨p72, c72, hv72, hc72⟩ := hd71_4.l_shape; subst hv72
 have m72 := m71.dat 81 rfl (hd71_4.cast (fun _ h => (free_add rfl h))); clear m71 hd71_4
 refine goCh Hz (.c rfl (fun _ h => y_idx h rfl rfl U25 fct7 (0) rfl (by simp)) <| .loadCR m72 (i := 80) rfl rfl U35 rfl fct7 <| .nil) ?_
 clear Hz Az; intro Az Hz
 refine wpList_plain rfl (fun K hK => ?_)
 refine e_alloc Hz m72 82 fct21 rfl ?_
 clear Hz Az m72; intro g75 Az w76 Hz m76 hB76 hg76
 clear hB76 hg76
 refine hK _ _ ?_; clear hK
 refine wpList_plain rfl (fun K hK => ?_)
 refine e_storeW Hz m76 82 rfl rfl rfl rfl rfl fct7 ?_
 clear m76; intro w77 m77 hB77
 clear hB77
 refine hK _ _ ?_; clear hK
 refine nl (hK7 _ _ ?_); clear hK7
 replace Hz : Has 93 [(4, _), (5, _), (7, _), (8, _), (9, _), (12, _), (13, _)] Az := Hz.only [4, 5, 7, 8, 9, 12, 13]
 refine sr fun K8 hK8 => ?_
 refine goCh Hz (.fieldAddr (off := 2) rfl U35 rfl (s := 0) (by kernel_rfl) rfl .nil) ?_
 clear Hz Az; intro Az Hz
 refine wpList_plain rfl (fun K hK => ?_)
 refine e_store1 Hz m77 82 rfl rfl rfl rfl rfl fct22 (by dsimp only [List.set] <;> rfl) ?_
 clear m77; intro w81 m81 hB81
 clear hB81
 refine hK _ _ ?_; clear hK
 refine nl (hK8 _ _ ?_); clear hK8
 refine sr fun K9 hK9 => ?_
 refine goCh Hz (.loadBR m81 (i := 82) rfl rfl U35 rfl fct7 (by simp) (by dsimp only [List.drop, List.take] <;> rfl) .nil) ?_
 clear Hz Az; intro Az Hz
 refine wpList_plain rfl (fun K hK => ?_)
 refine e_litR Hz m81 83 (mm := 5) rfl (.cons rfl rfl (.cons (.v _) (.cons (.v _) (.cons (.v _) (.cons (.v _) (.cons (m81.rd (i := 81) rfl) .nil))))) <| .nil) U25 fct20 rfl rfl rfl rfl rfl ?_
 clear Hz Az m81; intro g84 Az w85 Hz m85
 refine hK _ _ ?_; clear hK
 have m86 := m85.freezeR 83 rfl; clear m85
 refine wpList_plain rfl (fun K hK => ?_)
 refine e_call Hz Tryd.func10 rfl rfl rfl rfl (all_no [incV y t] _ _ _ _ ((m86.rd (i := 83) rfl).any) (by simp) (fun s hs => by rw [List.mem_singleton.1 hs]; exact hinc) (inc_no y t)) ?_
 rintro e w87 ⟨rfl, hb87⟩
 have m88 := m86.later hb87
 clear m86
 clear hb87
 refine ⟨_, rfl, ?_⟩; clear Hz Az; intro Az Hz
 refine hK _ _ ?_; clear hK
 refine goCh Hz (.move rfl <| .extract rfl rfl <| .extract rfl rfl <| .nil) ?_
 clear Hz Az; intro Az Hz
 refine wpList_plain rfl (fun K hK => ?_)
 refine e_alloc Hz m88 84 fct21 rfl ?_
 clear Hz Az m88; intro g93 Az w94 Hz m94 hB94 hg94
 clear hB94 hg94
 refine hK _ _ ?_; clear hK
 refine wpList_plain rfl (fun K hK => ?_)
 refine e_storeW Hz m94 84 rfl rfl rfl rfl rfl fct7 ?_
 clear m94; intro w95 m95 hB95
 clear hB95
 refine hK _ _ ?_; clear hK
 refine goCh Hz (.assign rfl .nil) ?_
 clear Hz Az; intro Az Hz
 refine nl (hK9 _ _ ?_); clear hK9
 refine wp_seq_k (fun K10 hK10 => ?_)
 replace Hz : Has 93 [(4, _), (5, _), (7, _), (8, _), (9, _), (12, _), (13, _), (15, _)] Az := Hz.only [4, 5, 7, 8, 9, 12, 13, 15]
 obtain ⟨b98, o98, vs98, hp98, hR98, ho98, m98⟩ := m95.openR (i := 71) rfl (0) (r := [.v (.int .i64 (seg y (-1) t).bl), .v (.int .i64 (seg y (-1) t).sz), .v (.int .i64 (seg y (-1) t).fr), .v (.int .i64 (seg y (-1) t).to), .l 2 ((seg y (-1) t).its.map itD)]) rfl 85 rfl
 cases hp98; clear m95 ho98
 rcases hR98 with _ | ⟨hd98_0, _ | ⟨hd98_1, _ | ⟨hd98_2, _ | ⟨hd98_3, _ | ⟨hd98_4, _ | _⟩⟩⟩⟩⟩
 obtain rfl := hd98_0.v_out
 clear hd98_0
 obtain rfl := hd98_1.v_out
 clear hd98_1
 obtain rfl := hd98_2.v_out
 clear hd98_2
 obtain rfl := hd98_3.v_out
 clear hd98_3
 obtain ⟨p99, c99, hv99, hc99⟩ := hd98_4.l_shape; subst hv99
 have m99 := m98.dat 86 rfl (hd98_4.cast (fun _ h => (free_add rfl h))); clear m98 hd98_4
 have m100 : MemOk _ _ [(70, _), (71, _), (72, _), (73, _), (74, _), (75, _), (76, _), (77, _), (78, _), (79, _), (80, _), (81, _), (82, _), (83, _), (84, _), (85, _), (86, _)] _ := m99.only [70, 71, 72, 73, 74, 75, 76, 77, 78, 79, 80, 81, 82, 83, 84, 85, 86]; clear m99
 refine region_p 38 (B := [(70, _), (71, _), (72, _), (73, _), (74, _), (75, _), (76, _), (77, _), (78, _), (79, _), (80, _), (81, _), (82, _), (83, _), (84, _), (85, _), (86, _)]) (m100.to ⟨il, il, il, il, il, il, il, il, il, il, il, il, il, il, il, il, il, trivial⟩) m100 (by kernel_rfl) (fun w101 hP101 m101 => ?_); clear m100
 refine goA hP101 [0, 1, 2] 3 0 7 Hz (m101.to ⟨il, il, il, il, il, il, il, il, il, il, il, il, il, il, il, il, il, trivial⟩) (.move rfl <| .eql rfl rfl <| .move rfl <| .nil) ?_
 clear Hz Az; intro Az Hz
 refine bool_cases Hz (t := 58) rfl ?_ ?_
 rotate_left
 · intro hb _; exact absurd hb (by first | exact fun h => kStr h | decide | (simp; done) | (intro h; revert h; first | decide | (exact fun h => by cases h)))
 clear Hz; intro _ Hz
 refine goR hP101 [3, 4, 5, 6] [3, 6] 4 7 127 Hz (m101.to ⟨il, il, il, il, il, il, il, il, il, il, il, il, il, il, il, il, il, trivial⟩) (.loadBR hh (i := 75) rfl rfl U35 rfl fct7 (by simp) (by dsimp only [List.drop, List.take] <;> rfl) <| .move rfl <| .p (fun _ _ h => y_idx h rfl rfl U25 fct7 (0) rfl (by simp)) <| .loadCR hh (i := 85) rfl rfl U35 rfl fct7 <| .nil) ?_
 clear Hz Az; intro Az Hz
 refine stepE_only 7 rfl (by kernel_rfl) (wantedG Hz rfl rfl rfl rfl) (fun K hK => ?_)
 refine e_call Hz Tryd.func13 rfl rfl rfl rfl (streams_same (seg y (-1) t) _ _ _ _ _ _ _ ((m101.rd (i := 74) rfl).any) ((m101.rd (i := 86) rfl).any) (by have := (hok _ List.mem_cons_self).1.len; omega)) ?_
 rintro e w110 ⟨rfl, hb110⟩
 have m111 := m101.later hb110
 clear m101
 clear hb110
 refine ⟨_, rfl, ?_⟩; clear Hz Az; intro Az Hz
 refine hK _ _ (m111.to ⟨il, il, il, il, il, il, il, il, il, il, il, il, il, il, il, il, il, trivial⟩) ?_; clear hK K
 refine goR hP101 [8, 9, 10, 12] [10] 4 255 6143 Hz (m111.to ⟨il, il, il, il, il, il, il, il, il, il, il, il, il, il, il, il, il, trivial⟩) (.pickT rfl rfl <| .move rfl <| .loadBR hh (i := 75) rfl rfl U35 rfl fct7 (by simp) (by dsimp only [List.drop, List.take] <;> rfl) <| .move rfl <| .nil) ?_
 clear Hz Az; intro Az Hz
 refine stepE_only 11 rfl (by kernel_rfl) (wantedG Hz rfl rfl rfl rfl) (fun K hK => ?_)
 refine e_call Hz Tryd.func15 rfl rfl rfl rfl (blocks_yes (seg y (-1) t) _ _ _ _ ((m111.rd (i := 74) rfl).any) (hok _ List.mem_cons_self).1 (hok _ List.mem_cons_self).2 (show (-1 : Int) < 0 by decide)) ?_
 rintro e w117 ⟨p117, c117, rfl, hd117, hb117⟩
 rw [seg_blocks hS (by decide)] at hd117
 have m118 := m111.callF 87 rfl hb117 hd117
 clear m111
 clear hb117 hd117
 refine ⟨_, rfl, ?_⟩; clear Hz Az; intro Az Hz
 refine hK _ _ (m118.to ⟨il, il, il, il, il, il, il, il, il, il, il, il, il, il, il, il, il, trivial⟩) ?_; clear hK K
 refine stepE_only 13 rfl (by kernel_rfl) (wantedG Hz rfl rfl rfl rfl) (fun K hK => ?_)
 refine e_call Hz Tryd.func14 rfl rfl rfl rfl (bodies_any (stL y.bl y.sz y.ws t) _ _ _ _ _ _ _ ((m118.rd (i := 87) rfl).any) ((m118.rd (i := 78) rfl).any) (by rw [stL_len]; omega)) ?_
 rintro e w120 ⟨rfl, hb120⟩
 have m121 := m118.later hb120
 clear m118
 clear hb120
 refine ⟨_, rfl, ?_⟩; clear Hz Az; intro Az Hz
 refine hK _ _ (m121.to ⟨il, il, il, il, il, il, il, il, il, il, il, il, il, il, il, il, il, trivial⟩) ?_; clear hK K
 refine goA hP101 [14, 15, 16, 17, 18, 19] 6 16383 1048575 Hz (m121.to ⟨il, il, il, il, il, il, il, il, il, il, il, il, il, il, il, il, il, trivial⟩) (.pickT rfl rfl <| .move rfl <| .move rfl <| .eql rfl rfl <| .pickT rfl rfl <| .move rfl <| .nil) ?_
 clear Hz Az; intro Az Hz
 refine bool_cases Hz (t := 75) rfl ?_ ?_
 rotate_left
 · intro hb _; exact absurd hb (by first | exact fun h => kStr h | decide | (simp; done) | (intro h; revert h; first | decide | (exact fun h => by cases h)))
 clear Hz; intro _ Hz
 refine goA hP101 [20, 21, 22, 23] 4 1048575 16777215 Hz (m121.to ⟨il, il, il, il, il, il, il, il, il, il, il, il, il, il, il, il, il, trivial⟩) (.move rfl <| .eql rfl rfl <| .pickT rfl rfl <| .move rfl <| .nil) ?_
 clear Hz Az; intro Az Hz
 refine bool_cases Hz (t := 79) rfl ?_ ?_
 rotate_left
 · intro hb _; exact absurd hb (by first | exact fun h => kStr h | decide | (simp; done) | (intro h; revert h; first | decide | (exact fun h => by cases h)))
 clear Hz; intro _ Hz
 refine goA hP101 [24] 1 16777215 33554431 Hz (m121.to ⟨il, il, il, il, il, il, il, il, il, il, il, il, il, il, il, il, il, trivial⟩) (.move rfl <| .nil) ?_
 clear Hz Az; intro Az Hz
 refine stepE_only 25 rfl (by kernel_rfl) (wantedG Hz rfl rfl rfl rfl) (fun K hK => ?_)
 refine e_call Hz Tryd.func19 rfl rfl rfl rfl (cright_any [(seg y (-1) t)] _ _ _ _ ((m121.rd (i := 71) rfl).any) (by simp) (fun s hs => (hok s hs).1)) ?_
 rintro e w136 ⟨rb, rfl, hrb, hb136⟩
 obtain rfl : rb = true := hrb.2 (hsg.chain (by simp))
 have m137 := m121.later hb136
 clear m121
 clear hb136
 refine ⟨_, rfl, ?_⟩; clear Hz Az; intro Az Hz
 refine hK _ _ (m137.to ⟨il, il, il, il, il, il, il, il, il, il, il, il, il, il, il, il, il, trivial⟩) ?_; clear hK K
 refine goA hP101 [26, 27] 2 67108863 268435455 Hz (m137.to ⟨il, il, il, il, il, il, il, il, il, il, il, il, il, il, il, il, il, trivial⟩) (.pickT rfl rfl <| .move rfl <| .nil) ?_
 clear Hz Az; intro Az Hz
 refine stepE_only 28 rfl (by kernel_rfl) (wantedG Hz rfl rfl rfl rfl) (fun K hK => ?_)
 refine e_call Hz Tryd.func19 rfl rfl rfl rfl (cright_any [] _ _ _ _ (.l0 _ _ _) (by decide) (fun s hs => by cases hs)) ?_
 rintro e w141 ⟨rb, rfl, hrb, hb141⟩
 obtain rfl : rb = false := by cases rb; rfl; exact absurd (hrb.1 rfl).1 (by decide)
 have m142 := m137.later hb141
 clear m137
 clear hb141
 refine ⟨_, rfl, ?_⟩; clear Hz Az; intro Az Hz
 refine hK _ _ (m142.to ⟨il, il, il, il, il, il, il, il, il, il, il, il, il, il, il, il, il, trivial⟩) ?_; clear hK K
 refine goR hP101 [29, 30, 31, 32] [32] 4 536870911 8589934591 Hz (m142.to ⟨il, il, il, il, il, il, il, il, il, il, il, il, il, il, il, il, il, trivial⟩) (.not rfl <| .pickT rfl rfl <| .move rfl <| .loadBR hh (i := 82) rfl rfl U35 rfl fct7 (by simp) (by dsimp only [List.drop, List.take] <;> rfl) <| .nil) ?_
 clear Hz Az; intro Az Hz
 refine stepE_only 33 rfl (by kernel_rfl) (wantedG Hz rfl rfl rfl rfl) (fun K hK => ?_)
 refine e_call Hz Tryd.func15 rfl rfl rfl rfl (blocks_no (incV y t) _ _ _ _ ((m142.rd (i := 81) rfl).any) hinc (hok _ List.mem_cons_self).2 (show ¬ (0 : Int) < 0 by decide)) ?_
 rintro e w148 ⟨rfl, hb148⟩
 have m149 := m142.later hb148
 clear m142
 clear hb148
 refine ⟨_, rfl, ?_⟩; clear Hz Az; intro Az Hz
 refine hK _ _ (m149.to ⟨il, il, il, il, il, il, il, il, il, il, il, il, il, il, il, il, il, trivial⟩) ?_; clear hK K
 refine goA hP101 [34, 35, 36, 37] 4 17179869183 274877906943 Hz (m149.to ⟨il, il, il, il, il, il, il, il, il, il, il, il, il, il, il, il, il, trivial⟩) (.len rfl U40 <| .eql rfl rfl <| .pickT rfl rfl <| .assign rfl <| .nil) ?_
 clear Hz Az; intro Az Hz
 refine wpAnyE_done (by kernel_rfl) ?_ _
 refine hK10 _ _ ?_; clear hK10
 refine wp_ret ?_
 try dsimp only [Exit.then, Exit.inBlock]
 refine (ret1 (fn := Tryd.f7) Hz rfl rfl ?_)
 exact ⟨by first | rfl | simp, m149.below⟩
end Go.Proofs.YtflcgpajodfkoaaDoor.K
