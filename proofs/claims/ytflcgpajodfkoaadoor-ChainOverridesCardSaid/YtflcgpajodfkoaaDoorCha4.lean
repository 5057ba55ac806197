/- chain: known; ChainOne's walk. -/
import Derived.Test.YtflcgpajodfkoaaDoorCha4m
namespace Go.Proofs.YtflcgpajodfkoaaDoor.K
open Go.ChangeShapes Go.WideShapes Go.ChangeAt Go.RowKit
set_option linter.unusedVariables false
set_option linter.unusedSimpArgs false
theorem fl35ckn : flatS Tryd.prog 35 [.int .i64 0, .int .i64 0, .int .i64 0, .int .i64 0, .slice none 0 0] = true := by kernel_rfl
theorem fl58ckn : flatS Tryd.prog 58 [.int .i64 0, .slice none 0 0] = true := by kernel_rfl
abbrev kA : StrV := ⟨2, 1, -1, 1, [(0, [120]), (1, [121])]⟩
abbrev kB : StrV := ⟨2, 1, 1, 2, [(1, [122])]⟩
abbrev kM : StrV := ⟨2, 1, -1, 2, [(0, [120]), (1, [122])]⟩
theorem kMrg : mergeV kA kB = kM := by
 unfold mergeV
 simp only [kA, kB]
 rw [later_lt (by decide), later_eq (by decide), later_nil]
theorem kOkA (fr to : Int) (d0 d1 : Int) (h1 : -1 ≤ fr) (h2 : 0 ≤ to ∧ to ≤ 1099511627776) (h3 : fr ≤ to) : StreamOk 2 1 fr to [(0, [d0]), (1, [d1])] := ⟨by decide, by decide, h1, h2, h3, fun _ => rfl, fun k e he => by
 match k, he with
 | 0, he => obtain rfl := (Option.some.inj he).symm; exact ⟨by show (-1 : Int) < 0; decide, by show (0 : Int) < 2; decide, rfl⟩
 | 1, he => obtain rfl := (Option.some.inj he).symm; exact ⟨by show (0 : Int) < 1; decide, by show (1 : Int) < 2; decide, rfl⟩, by simp⟩
theorem kAok : StreamOk kA.bl kA.sz kA.fr kA.to kA.its := kOkA _ _ _ _ (by decide) (by decide) (by decide)
theorem kMok : StreamOk kM.bl kM.sz kM.fr kM.to kM.its := kOkA _ _ _ _ (by decide) (by decide) (by decide)
theorem kBok : StreamOk kB.bl kB.sz kB.fr kB.to kB.its := ⟨by decide, by decide, by decide, by decide, by decide, fun h => absurd h (by decide), fun k e he => by
 match k, he with
 | 0, he => obtain rfl := (Option.some.inj he).symm; decide, by decide⟩
theorem kIo (l : List PI) (h : l.all (fun e => decide (e.2.length ≤ 10)) = true) : ItsOk l := fun e he => by
 have := List.all_eq_true.1 h e he
 have := of_decide_eq_true this
 omega
theorem kAio : ItsOk kA.its := kIo _ rfl
theorem kBio : ItsOk kB.its := kIo _ rfl
theorem kMio : ItsOk kM.its := kIo _ rfl
theorem kFol : FolB kA kB := ⟨rfl, rfl, rfl⟩
theorem kNof : ¬ FolB kB kA := fun h => absurd h.2.2 (by decide)
theorem kOks : ∀ s ∈ [kA, kB], StreamOk s.bl s.sz s.fr s.to s.its := fun s hs => by
 rcases List.mem_cons.1 hs with rfl | hs
 · exact kAok
 rw [List.mem_singleton.1 hs]; exact kBok
theorem kOks1 : ∀ s ∈ [kB], StreamOk s.bl s.sz s.fr s.to s.its := fun s hs => by rw [List.mem_singleton.1 hs]; exact kBok
theorem kIos : ∀ s ∈ [kA, kB], ItsOk s.its := fun s hs => by
 rcases List.mem_cons.1 hs with rfl | hs
 · exact kAio
 rw [List.mem_singleton.1 hs]; exact kBio
theorem kCh : ChainOk [kA, kB] := ⟨by decide, fun i hi => by
 match i, hi with
 | 0, _ => exact (OkAt.of_zero rfl).2 (by decide)
 | 1, _ => exact (OkAt.of_get (by decide) rfl rfl).2 kFol⟩
theorem kNch : ¬ ChainOk [kB] := fun h => absurd ((OkAt.of_zero rfl).1 (h.2 0 (by decide))) (by decide)
def incV (y : VolV) (t : Nat) : StrV := ⟨y.bl, y.sz, 0, t, segIt y (-1) t y.bl.toNat⟩
theorem kStr (h : ((strOfNums [122]).toList == (⟨#[122]⟩ : ByteArray).toList) = false) : False := by
 rw [show strOfNums [122] = (⟨#[122]⟩ : ByteArray) from rfl] at h
 simp at h
set_option maxRecDepth 100000
set_option maxHeartbeats 4000000
theorem cknown_any (w0 : World) : Calls Tryd.prog 8 #[] w0 fun e w' => e = .returned (.bool true) ∧ Below w0.heap.size w0 w' := by
 refine ent0 Tryd.func8 rfl Tryd.ntmps8 fun Az Hz => ?_
 have m0 := MemOk.start (fun _ => False) w0
 refine regS Hz (.assign rfl <| .nil) ?_
 clear Hz Az; intro Az Hz
 refine zsr fun K0 hK0 => ?_
 refine st_const Hz m0 20 rfl rfl U22 U5 fct0 rfl rfl rfl rfl rfl ?_
 clear Hz Az m0; intro g2 a2 w2 ha2 m2
 refine goCh ha2 (.build rfl fct3 fl58ckn rfl (by dsimp only [setL, List.set] <;> rfl) .nil) ?_
 clear ha2 a2; intro a2 ha2
 refine st_const ha2 m2 21 rfl rfl U22 U5 fct0 rfl rfl rfl rfl rfl ?_
 clear ha2 a2 m2; intro g4 a4 w4 ha4 m4
 refine goCh ha4 (.build rfl fct3 fl58ckn rfl (by dsimp only [setL, List.set] <;> rfl) .nil) ?_
 clear ha4 a4; intro a4 ha4
 refine wpList_plain rfl (fun K hK => ?_)
 refine e_litR ha4 m4 22 (mm := 2) rfl (.cons rfl rfl (.cons (.v _) (.cons (m4.rd (i := 20) rfl) .nil)) <| .cons rfl rfl (.cons (.v _) (.cons (m4.rd (i := 21) rfl) .nil)) <| .nil) U33 fct4 rfl rfl rfl rfl rfl ?_
 clear ha4 a4 m4; intro g6 Az w7 Hz m7
 refine hK _ _ ?_; clear hK
 refine goCh Hz (.build rfl fct21 fl35ckn rfl (by dsimp only [setL, List.set] <;> rfl) .nil) ?_
 clear Hz Az; intro Az Hz
 refine wpList_plain rfl (fun K hK => ?_)
 refine e_alloc Hz m7 23 fct21 rfl ?_
 clear Hz Az m7; intro g9 Az w10 Hz m10 hB10 hg10
 clear hB10 hg10
 refine hK _ _ ?_; clear hK
 refine wpList_plain rfl (fun K hK => ?_)
 refine e_storeW Hz m10 23 rfl rfl rfl rfl rfl fct7 ?_
 clear m10; intro w11 m11 hB11
 clear hB11
 refine hK _ _ ?_; clear hK
 refine znl (hK0 _ _ ?_); clear hK0
 replace Hz : Has 104 [(0, _), (1, _)] Az := Hz.only [0, 1]
 refine zsr fun K1 hK1 => ?_
 refine st_const Hz m11 24 rfl rfl U22 U5 fct0 rfl rfl rfl rfl rfl ?_
 clear Hz Az m11; intro g13 a13 w13 ha13 m13
 refine goCh ha13 (.build rfl fct3 fl58ckn rfl (by dsimp only [setL, List.set] <;> rfl) .nil) ?_
 clear ha13 a13; intro a13 ha13
 refine wpList_plain rfl (fun K hK => ?_)
 refine e_litR ha13 m13 25 (mm := 2) rfl (.cons rfl rfl (.cons (.v _) (.cons (m13.rd (i := 24) rfl) .nil)) <| .nil) U33 fct4 rfl rfl rfl rfl rfl ?_
 clear ha13 a13 m13; intro g15 Az w16 Hz m16
 refine hK _ _ ?_; clear hK
 refine goCh Hz (.build rfl fct21 fl35ckn rfl (by dsimp only [setL, List.set] <;> rfl) .nil) ?_
 clear Hz Az; intro Az Hz
 refine wpList_plain rfl (fun K hK => ?_)
 refine e_alloc Hz m16 26 fct21 rfl ?_
 clear Hz Az m16; intro g18 Az w19 Hz m19 hB19 hg19
 clear hB19 hg19
 refine hK _ _ ?_; clear hK
 refine wpList_plain rfl (fun K hK => ?_)
 refine e_storeW Hz m19 26 rfl rfl rfl rfl rfl fct7 ?_
 clear m19; intro w20 m20 hB20
 clear hB20
 refine hK _ _ ?_; clear hK
 refine znl (hK1 _ _ ?_); clear hK1
 refine zsr fun K2 hK2 => ?_
 refine goCh Hz (.loadBR m20 (i := 23) rfl rfl U35 rfl fct7 (by simp) (by dsimp only [List.drop, List.take] <;> rfl) <| .loadBR m20 (i := 26) rfl rfl U35 rfl fct7 (by simp) (by dsimp only [List.drop, List.take] <;> rfl) <| .nil) ?_
 clear Hz Az; intro Az Hz
 have m25 := m20.freezeR 22 rfl; clear m20
 have m26 := m25.freezeR 25 rfl; clear m25
 refine wpList_plain rfl (fun K hK => ?_)
 refine e_call Hz Tryd.func11 rfl rfl rfl rfl (merge_yes kA kB _ _ _ _ _ _ _ ((m26.rd (i := 22) rfl).any) ((m26.rd (i := 25) rfl).any) kAok kBok kAio kBio kFol) ?_
 rintro e w27 ⟨p27, c27, rfl, hd27, hb27⟩
 rw [kMrg] at hd27 ⊢
 have m28 := m26.callF 27 rfl hb27 hd27
 clear m26
 clear hb27 hd27
 refine ⟨_, rfl, ?_⟩; clear Hz Az; intro Az Hz
 refine hK _ _ ?_; clear hK
 refine goCh Hz (.move rfl <| .extract rfl rfl <| .extract rfl rfl <| .nil) ?_
 clear Hz Az; intro Az Hz
 refine wpList_plain rfl (fun K hK => ?_)
 refine e_alloc Hz m28 28 fct21 rfl ?_
 clear Hz Az m28; intro g33 Az w34 Hz m34 hB34 hg34
 clear hB34 hg34
 refine hK _ _ ?_; clear hK
 refine wpList_plain rfl (fun K hK => ?_)
 refine e_storeW Hz m34 28 rfl rfl rfl rfl rfl fct7 ?_
 clear m34; intro w35 m35 hB35
 clear hB35
 refine hK _ _ ?_; clear hK
 refine goCh Hz (.assign rfl .nil) ?_
 clear Hz Az; intro Az Hz
 refine znl (hK2 _ _ ?_); clear hK2
 replace Hz : Has 104 [(0, _), (1, _), (2, _), (3, _), (4, _)] Az := Hz.only [0, 1, 2, 3, 4]
 refine zsr fun K3 hK3 => ?_
 refine goCh Hz (.loadBR m35 (i := 26) rfl rfl U35 rfl fct7 (by simp) (by dsimp only [List.drop, List.take] <;> rfl) <| .loadBR m35 (i := 23) rfl rfl U35 rfl fct7 (by simp) (by dsimp only [List.drop, List.take] <;> rfl) <| .nil) ?_
 clear Hz Az; intro Az Hz
 refine wpList_plain rfl (fun K hK => ?_)
 refine e_call Hz Tryd.func11 rfl rfl rfl rfl (merge_no kB kA _ _ _ _ _ _ _ ((m35.rd (i := 25) rfl).any) ((m35.rd (i := 22) rfl).any) kBok kAok kNof) ?_
 rintro e w42 ⟨rfl, hb42⟩
 have m43 := m35.later hb42
 clear m35
 clear hb42
 refine ⟨_, rfl, ?_⟩; clear Hz Az; intro Az Hz
 refine hK _ _ ?_; clear hK
 refine goCh Hz (.move rfl <| .extract rfl rfl <| .extract rfl rfl <| .nil) ?_
 clear Hz Az; intro Az Hz
 refine wpList_plain rfl (fun K hK => ?_)
 refine e_alloc Hz m43 30 fct21 rfl ?_
 clear Hz Az m43; intro g48 Az w49 Hz m49 hB49 hg49
 clear hB49 hg49
 refine hK _ _ ?_; clear hK
 refine wpList_plain rfl (fun K hK => ?_)
 refine e_storeW Hz m49 30 rfl rfl rfl rfl rfl fct7 ?_
 clear m49; intro w50 m50 hB50
 clear hB50
 refine hK _ _ ?_; clear hK
 refine goCh Hz (.assign rfl .nil) ?_
 clear Hz Az; intro Az Hz
 refine znl (hK3 _ _ ?_); clear hK3
 replace Hz : Has 104 [(0, _), (1, _), (2, _), (3, _), (4, _), (6, _)] Az := Hz.only [0, 1, 2, 3, 4, 6]
 refine zsr fun K4 hK4 => ?_
 refine goCh Hz (.loadBR m50 (i := 23) rfl rfl U35 rfl fct7 (by simp) (by dsimp only [List.drop, List.take] <;> rfl) <| .loadBR m50 (i := 26) rfl rfl U35 rfl fct7 (by simp) (by dsimp only [List.drop, List.take] <;> rfl) <| .nil) ?_
 clear Hz Az; intro Az Hz
 refine wpList_plain rfl (fun K hK => ?_)
 refine e_litR Hz m50 31 (mm := 5) rfl (.cons rfl rfl (.cons (.v _) (.cons (.v _) (.cons (.v _) (.cons (.v _) (.cons (m50.rd (i := 22) rfl) .nil))))) <| .cons rfl rfl (.cons (.v _) (.cons (.v _) (.cons (.v _) (.cons (.v _) (.cons (m50.rd (i := 25) rfl) .nil))))) <| .nil) U25 fct20 rfl rfl rfl rfl rfl ?_
 clear Hz Az m50; intro g57 Az w58 Hz m58
 refine hK _ _ ?_; clear hK
 have m59 := m58.freezeR 31 rfl; clear m58
 refine wpList_plain rfl (fun K hK => ?_)
 refine e_call Hz Tryd.func10 rfl rfl rfl rfl (all_yes [kA, kB] _ _ _ _ ((m59.rd (i := 31) rfl).any) (by decide) kOks kCh (by decide) kIos) ?_
 rintro e w60 ⟨sv, p60, c60, hE, hsl, hso, rfl, hd60, hb60⟩
 obtain rfl : sv = kM := hE.pair.trans kMrg
 have m61 := m59.callF 32 rfl hb60 hd60
 clear m59
 clear hb60 hd60
 refine ⟨_, rfl, ?_⟩; clear Hz Az; intro Az Hz
 refine hK _ _ ?_; clear hK
 refine goCh Hz (.move rfl <| .extract rfl rfl <| .extract rfl rfl <| .nil) ?_
 clear Hz Az; intro Az Hz
 refine wpList_plain rfl (fun K hK => ?_)
 refine e_alloc Hz m61 33 fct21 rfl ?_
 clear Hz Az m61; intro g66 Az w67 Hz m67 hB67 hg67
 clear hB67 hg67
 refine hK _ _ ?_; clear hK
 refine wpList_plain rfl (fun K hK => ?_)
 refine e_storeW Hz m67 33 rfl rfl rfl rfl rfl fct7 ?_
 clear m67; intro w68 m68 hB68
 clear hB68
 refine hK _ _ ?_; clear hK
 refine goCh Hz (.assign rfl .nil) ?_
 clear Hz Az; intro Az Hz
 refine znl (hK4 _ _ ?_); clear hK4
 replace Hz : Has 104 [(0, _), (1, _), (2, _), (3, _), (4, _), (6, _), (7, _), (8, _)] Az := Hz.only [0, 1, 2, 3, 4, 6, 7, 8]
 refine zsr fun K5 hK5 => ?_
 refine goCh Hz (.loadBR m68 (i := 33) rfl rfl U35 rfl fct7 (by simp) (by dsimp only [List.drop, List.take] <;> rfl) .nil) ?_
 clear Hz Az; intro Az Hz
 refine wpList_plain rfl (fun K hK => ?_)
 refine e_call Hz Tryd.func15 rfl rfl rfl rfl (blocks_yes kM _ _ _ _ ((m68.rd (i := 32) rfl).any) kMok kMio (by decide)) ?_
 rintro e w73 ⟨p73, c73, rfl, hd73, hb73⟩
 have m74 := m68.callF 34 rfl hb73 hd73
 clear m68
 clear hb73 hd73
 refine ⟨_, rfl, ?_⟩; clear Hz Az; intro Az Hz
 refine hK _ _ ?_; clear hK
 refine goCh Hz (.assign rfl .nil) ?_
 clear Hz Az; intro Az Hz
 refine znl (hK5 _ _ ?_); clear hK5
 refine zsr fun K6 hK6 => ?_
 refine wpList_plain rfl (fun K hK => ?_)
 refine e_call Hz Tryd.func17 rfl rfl rfl rfl (decode_none _) ?_
 rintro e w77 ⟨rfl, hb77⟩
 have m78 := m74.later hb77
 clear m74
 clear hb77
 refine ⟨_, rfl, ?_⟩; clear Hz Az; intro Az Hz
 refine hK _ _ ?_; clear hK
 refine goCh Hz (.move rfl <| .extract rfl rfl <| .extract rfl rfl <| .extract rfl rfl <| .assign rfl <| .assign rfl <| .assign rfl <| .nil) ?_
 clear Hz Az; intro Az Hz
 refine znl (hK6 _ _ ?_); clear hK6
 replace Hz : Has 104 [(0, _), (1, _), (2, _), (3, _), (4, _), (6, _), (7, _), (8, _), (9, _), (11, _), (12, _)] Az := Hz.only [0, 1, 2, 3, 4, 6, 7, 8, 9, 11, 12]
 refine zsr fun K7 hK7 => ?_
 refine goCh Hz (.move rfl <| .eql rfl rfl <| .move rfl <| .nil) ?_
 clear Hz Az; intro Az Hz
 refine bool_cases Hz (t := 54) rfl ?_ ?_
 rotate_left
 · intro hb _; exact absurd hb (by first | exact fun h => kStr h | decide | (simp; done) | (intro h; revert h; first | decide | (exact fun h => by cases h)))
 clear Hz; intro _ Hz
 refine goCh Hz (.loadBRZ m78 (i := 28) rfl rfl U35 rfl fct7 (by simp) (by dsimp only [List.drop, List.take] <;> rfl) <| .loadBRZ m78 (i := 33) rfl rfl U35 rfl fct7 (by simp) (by dsimp only [List.drop, List.take] <;> rfl) <| .nil) ?_
 clear Hz Az; intro Az Hz
 refine st_ge Hz rfl rfl rfl rfl (fun K hK => ?_)
 refine e_call Hz Tryd.func13 rfl rfl rfl rfl (streams_same kM _ _ _ _ _ _ _ ((m78.rd (i := 27) rfl).any) ((m78.rd (i := 32) rfl).any) (by decide)) ?_
 rintro e w97 ⟨rfl, hb97⟩
 have m98 := m78.later hb97
 clear m78
 clear hb97
 refine ⟨_, rfl, ?_⟩; clear Hz Az; intro Az Hz
 refine hK _ _ ?_; clear hK
 refine goCh Hz (.pickT rfl rfl <| .move rfl <| .moveZ rfl <| .eqlZ rfl rfl <| .pickT rfl rfl <| .move rfl <| .nil) ?_
 clear Hz Az; intro Az Hz
 refine bool_cases Hz (t := 63) rfl ?_ ?_
 rotate_left
 · intro hb _; exact absurd hb (by first | exact fun h => kStr h | decide | (simp; done) | (intro h; revert h; first | decide | (exact fun h => by cases h)))
 clear Hz; intro _ Hz
 refine goCh Hz (.moveZ rfl <| .eqlZ rfl rfl <| .pickT rfl rfl <| .move rfl <| .nil) ?_
 clear Hz Az; intro Az Hz
 refine bool_cases Hz (t := 67) rfl ?_ ?_
 rotate_left
 · intro hb _; exact absurd hb (by first | exact fun h => kStr h | decide | (simp; done) | (intro h; revert h; first | decide | (exact fun h => by cases h)))
 clear Hz; intro _ Hz
 refine goCh Hz (.moveZ rfl <| .lenZ rfl U40 <| .eqlZ rfl rfl <| .pickT rfl rfl <| .move rfl <| .nil) ?_
 clear Hz Az; intro Az Hz
 refine bool_cases Hz (t := 72) rfl ?_ ?_
 rotate_left
 · intro hb _; exact absurd hb (by first | exact fun h => kStr h | decide | (simp; done) | (intro h; revert h; first | decide | (exact fun h => by cases h)))
 clear Hz; intro _ Hz
 refine goCh Hz (.moveZ rfl .nil) ?_
 clear Hz Az; intro Az Hz
 obtain ⟨b119, o119, vs119, hp119, hR119, ho119, m119⟩ := m98.openR (i := 34) rfl (1) (r := [.ns .u8 [122]]) rfl 35 rfl
 cases hp119; clear m98 ho119
 rcases hR119 with _ | ⟨hd119_0, _ | _⟩
 obtain ⟨p120, c120, hv120, hc120⟩ := hd119_0.ns_shape; subst hv120
 have m120 := m119.dat 36 rfl (hd119_0.cast (fun _ h => (free_add rfl h))); clear m119 hd119_0
 refine goCh Hz (.g rfl rfl rfl rfl (fun _ h => y_idx h rfl rfl U40 fct1 (1) rfl (by decide)) <| .loadC0Z m120 (i := 35) rfl rfl U22 rfl <| .strZ rfl (m120.nums (i := 36) rfl) U22 U5 U9 <| .eqlSZ rfl rfl <| .pickT rfl rfl <| .move rfl <| .nil) ?_
 clear Hz Az; intro Az Hz
 refine bool_cases Hz (t := 79) rfl ?_ ?_
 rotate_left
 · intro hb _; exact absurd hb (by first | exact fun h => kStr h | decide | (simp; done) | (intro h; revert h; first | decide | (exact fun h => by cases h)))
 clear Hz; intro _ Hz
 refine goCh Hz (.loadBRZ m120 (i := 23) rfl rfl U35 rfl fct7 (by simp) (by dsimp only [List.drop, List.take] <;> rfl) <| .loadBRZ m120 (i := 26) rfl rfl U35 rfl fct7 (by simp) (by dsimp only [List.drop, List.take] <;> rfl) <| .nil) ?_
 clear Hz Az; intro Az Hz
 refine st_ge Hz rfl rfl rfl rfl (fun K hK => ?_)
 refine e_litR Hz m120 37 (mm := 5) rfl (.cons rfl rfl (.cons (.v _) (.cons (.v _) (.cons (.v _) (.cons (.v _) (.cons (m120.rd (i := 22) rfl) .nil))))) <| .cons rfl rfl (.cons (.v _) (.cons (.v _) (.cons (.v _) (.cons (.v _) (.cons (m120.rd (i := 25) rfl) .nil))))) <| .nil) U25 fct20 rfl rfl rfl rfl rfl ?_
 clear Hz Az m120; intro g130 Az w131 Hz m131
 refine hK _ _ ?_; clear hK
 have m132 := m131.freezeR 37 rfl; clear m131
 refine st_ge Hz rfl rfl rfl rfl (fun K hK => ?_)
 refine e_call Hz Tryd.func19 rfl rfl rfl rfl (cright_any [kA, kB] _ _ _ _ ((m132.rd (i := 37) rfl).any) (by decide) kOks) ?_
 rintro e w133 ⟨rb, rfl, hrb, hb133⟩
 obtain rfl : rb = true := hrb.2 kCh
 have m134 := m132.later hb133
 clear m132
 clear hb133
 refine ⟨_, rfl, ?_⟩; clear Hz Az; intro Az Hz
 refine hK _ _ ?_; clear hK
 refine goCh Hz (.pickT rfl rfl <| .move rfl <| .loadBRZ m134 (i := 26) rfl rfl U35 rfl fct7 (by simp) (by dsimp only [List.drop, List.take] <;> rfl) <| .nil) ?_
 clear Hz Az; intro Az Hz
 refine st_ge Hz rfl rfl rfl rfl (fun K hK => ?_)
 refine e_litR Hz m134 38 (mm := 5) rfl (.cons rfl rfl (.cons (.v _) (.cons (.v _) (.cons (.v _) (.cons (.v _) (.cons (m134.rd (i := 25) rfl) .nil))))) <| .nil) U25 fct20 rfl rfl rfl rfl rfl ?_
 clear Hz Az m134; intro g139 Az w140 Hz m140
 refine hK _ _ ?_; clear hK
 have m141 := m140.freezeR 38 rfl; clear m140
 refine st_ge Hz rfl rfl rfl rfl (fun K hK => ?_)
 refine e_call Hz Tryd.func19 rfl rfl rfl rfl (cright_any [kB] _ _ _ _ ((m141.rd (i := 38) rfl).any) (by decide) kOks1) ?_
 rintro e w142 ⟨rb, rfl, hrb, hb142⟩
 obtain rfl : rb = false := by cases rb; rfl; exact absurd (hrb.1 rfl) kNch
 have m143 := m141.later hb142
 clear m141
 clear hb142
 refine ⟨_, rfl, ?_⟩; clear Hz Az; intro Az Hz
 refine hK _ _ ?_; clear hK
 refine goCh Hz (.notZ rfl <| .pickT rfl rfl <| .move rfl <| .loadBRZ m143 (i := 23) rfl rfl U35 rfl fct7 (by simp) (by dsimp only [List.drop, List.take] <;> rfl) <| .loadBRZ m143 (i := 26) rfl rfl U35 rfl fct7 (by simp) (by dsimp only [List.drop, List.take] <;> rfl) <| .nil) ?_
 clear Hz Az; intro Az Hz
 refine st_ge Hz rfl rfl rfl rfl (fun K hK => ?_)
 refine e_call Hz Tryd.func20 rfl rfl rfl rfl (follows_any kA kB _ _ _ _ _ _ _ ((m143.rd (i := 22) rfl).any) ((m143.rd (i := 25) rfl).any) kAok kBok) ?_
 rintro e w150 ⟨fb, rfl, hfb, hb150⟩
 obtain rfl : fb = true := hfb.2 kFol
 have m151 := m143.later hb150
 clear m143
 clear hb150
 refine ⟨_, rfl, ?_⟩; clear Hz Az; intro Az Hz
 refine hK _ _ ?_; clear hK
 refine goCh Hz (.pickT rfl rfl <| .move rfl <| .moveZ rfl <| .eqlZ rfl rfl <| .pickT rfl rfl <| .move rfl <| .nil) ?_
 clear Hz Az; intro Az Hz
 refine bool_cases Hz (t := 100) rfl ?_ ?_
 rotate_left
 · intro hb _; exact absurd hb (by first | exact fun h => kStr h | decide | (simp; done) | (intro h; revert h; first | decide | (exact fun h => by cases h)))
 clear Hz; intro _ Hz
 refine goCh Hz (.moveZ rfl <| .eqlZ rfl rfl <| .pickT rfl rfl <| .assign rfl <| .nil) ?_
 clear Hz Az; intro Az Hz
 refine znl (hK7 _ _ ?_); clear hK7
 refine wp_ret ?_
 try dsimp only [Exit.then, Exit.inBlock]
 refine (ret1 (fn := Tryd.f8) Hz rfl rfl ?_)
 exact ⟨by first | rfl | simp | decide, m151.below⟩
end Go.Proofs.YtflcgpajodfkoaaDoor.K
