/- chain: known; ChainOne's walk. -/
import Derived.Test.YtcccomafnmdlfaaDoorCha4m
namespace Go.Proofs.YtcccomafnmdlfaaDoor.K
open Go.ChangeShapes Go.WideShapes Go.ChangeAt Go.RowKit
set_option linter.unusedVariables false
set_option linter.unusedSimpArgs false
theorem fl38ckn : flatS Tryd.prog 38 [.int .i64 0, .int .i64 0, .int .i64 0, .int .i64 0, .slice none 0 0] = true := by kernel_rfl
theorem fl48ckn : flatS Tryd.prog 48 [.int .i64 0, .slice none 0 0] = true := by kernel_rfl
abbrev kA : StrV := ⟨2, 1, -1, 1, [(0, [120]), (1, [121])]⟩
abbrev kB : StrV := ⟨2, 1, 1, 2, [(1, [122])]⟩
abbrev kM : StrV := ⟨2, 1, -1, 2, [(0, [120]), (1, [122])]⟩
theorem kMrg : mergeV kA kB = kM := by
 unfold mergeV
 simp only [kA, kB]
 rw [later_lt (by decide), later_eq (by decide), later_nil]
theorem kOkA (fr to : Int) (d0 d1 : Int) (h1 : -1 ≤ fr) (h2 : 0 ≤ to ∧ to ≤ 1099511627776) (h3 : fr ≤ to) : StreamOk 2 1 fr to [(0, [d0]), (1, [d1])] := ⟨by decide, by decide, h1, h2, h3, fun _ => rfl, fun k e he => by
 match k, he with
 | 0, he => obtain rfl := (Option.some.inj he).symm; exact ⟨by show (-1 : Int) < 0; decide, by show (0 : Int) < 2; decide, rfl⟩
 | 1, he => obtain rfl := (Option.some.inj he).symm; exact ⟨by show (0 : Int) < 1; decide, by show (1 : Int) < 2; decide, rfl⟩, by simp⟩
theorem kAok : StreamOk kA.bl kA.sz kA.fr kA.to kA.its := kOkA _ _ _ _ (by decide) (by decide) (by decide)
theorem kMok : StreamOk kM.bl kM.sz kM.fr kM.to kM.its := kOkA _ _ _ _ (by decide) (by decide) (by decide)
theorem kBok : StreamOk kB.bl kB.sz kB.fr kB.to kB.its := ⟨by decide, by decide, by decide, by decide, by decide, fun h => absurd h (by decide), fun k e he => by
 match k, he with
 | 0, he => obtain rfl := (Option.some.inj he).symm; decide, by decide⟩
theorem kIo (l : List PI) (h : l.all (fun e => decide (e.2.length ≤ 10)) = true) : ItsOk l := fun e he => by
 have := List.all_eq_true.1 h e he
 have := of_decide_eq_true this
 omega
theorem kAio : ItsOk kA.its := kIo _ rfl
theorem kBio : ItsOk kB.its := kIo _ rfl
theorem kMio : ItsOk kM.its := kIo _ rfl
theorem kFol : FolB kA kB := ⟨rfl, rfl, rfl⟩
theorem kNof : ¬ FolB kB kA := fun h => absurd h.2.2 (by decide)
theorem kOks : ∀ s ∈ [kA, kB], StreamOk s.bl s.sz s.fr s.to s.its := fun s hs => by
 rcases List.mem_cons.1 hs with rfl | hs
 · exact kAok
 rw [List.mem_singleton.1 hs]; exact kBok
theorem kOks1 : ∀ s ∈ [kB], StreamOk s.bl s.sz s.fr s.to s.its := fun s hs => by rw [List.mem_singleton.1 hs]; exact kBok
theorem kIos : ∀ s ∈ [kA, kB], ItsOk s.its := fun s hs => by
 rcases List.mem_cons.1 hs with rfl | hs
 · exact kAio
 rw [List.mem_singleton.1 hs]; exact kBio
theorem kCh : ChainOk [kA, kB] := ⟨by decide, fun i hi => by
 match i, hi with
 | 0, _ => exact (OkAt.of_zero rfl).2 (by decide)
 | 1, _ => exact (OkAt.of_get (by decide) rfl rfl).2 kFol⟩
theorem kNch : ¬ ChainOk [kB] := fun h => absurd ((OkAt.of_zero rfl).1 (h.2 0 (by decide))) (by decide)
def incV (y : VolV) (t : Nat) : StrV := ⟨y.bl, y.sz, 0, t, segIt y (-1) t y.bl.toNat⟩
theorem kStr (h : ((strOfNums [122]).toList == (⟨#[122]⟩ : ByteArray).toList) = false) : False := by
 rw [show strOfNums [122] = (⟨#[122]⟩ : ByteArray) from rfl] at h
 simp at h
set_option maxRecDepth 100000
set_option maxHeartbeats 4000000
theorem cknown_any (w0 : World) : Calls Tryd.prog 4 #[] w0 fun e w' => e = .returned (.bool true) ∧ Below w0.heap.size w0 w' := by
 refine ent0 Tryd.func4 rfl Tryd.ntmps4 fun Az Hz => ?_
 have m0 := MemOk.start (fun _ => False) w0
 refine regS Hz (.assign rfl .nil) fun Az Hz => ?_
 refine zsr fun K0 hK0 => ?_
 refine st_const Hz m0 20 rfl rfl U22 U5 fct4 rfl rfl rfl rfl rfl ?_
 intro g2 a2 w2 ha2 m2
 refine goCh ha2 (.build rfl fct3 fl48ckn rfl (by dsimp only [setL, List.set] <;> rfl) .nil) ?_
 clear ha2 a2; intro a2 ha2
 refine st_const ha2 m2 21 rfl rfl U22 U5 fct4 rfl rfl rfl rfl rfl ?_
 clear ha2 a2 m2; intro g4 a4 w4 ha4 m4
 refine goCh ha4 (.build rfl fct3 fl48ckn rfl (by dsimp only [setL, List.set] <;> rfl) .nil) ?_
 clear ha4 a4; intro a4 ha4
 refine plz (e_litR ha4 m4 22 (mm := 2) rfl (.cons rfl rfl (.cons (.v _) (.cons (m4.rd (i := 20) rfl) .nil)) <| .cons rfl rfl (.cons (.v _) (.cons (m4.rd (i := 21) rfl) .nil)) .nil) U36 fct24 rfl rfl rfl rfl rfl ?_)
 clear ha4 a4 m4; intro g6 Az w7 Hz m7
 refine goCh Hz (.build rfl fct17 fl38ckn rfl (by dsimp only [setL, List.set] <;> rfl) .nil) fun Az Hz => ?_
 refine plz (e_alloc Hz m7 23 fct17 rfl fun g9 Az w10 Hz m10 _ _ => ?_)
 refine plz (stw Hz m10 23 fct2 fun w11 m11 _ => ?_)
 refine znl (hK0 _ _ ?_)
 replace Hz := Hz.oz [0, 1]
 refine zsr fun K1 hK1 => ?_
 refine st_const Hz m11 24 rfl rfl U22 U5 fct4 rfl rfl rfl rfl rfl ?_
 intro g13 a13 w13 ha13 m13
 refine goCh ha13 (.build rfl fct3 fl48ckn rfl (by dsimp only [setL, List.set] <;> rfl) .nil) ?_
 clear ha13 a13; intro a13 ha13
 refine plz (e_litR ha13 m13 25 (mm := 2) rfl (.cons rfl rfl (.cons (.v _) (.cons (m13.rd (i := 24) rfl) .nil)) .nil) U36 fct24 rfl rfl rfl rfl rfl ?_)
 clear ha13 a13 m13; intro g15 Az w16 Hz m16
 refine goCh Hz (.build rfl fct17 fl38ckn rfl (by dsimp only [setL, List.set] <;> rfl) .nil) fun Az Hz => ?_
 refine plz (e_alloc Hz m16 26 fct17 rfl fun g18 Az w19 Hz m19 _ _ => ?_)
 refine plz (stw Hz m19 26 fct2 fun w20 m20 _ => ?_)
 refine znl (hK1 _ _ ?_)
 refine zsr fun K2 hK2 => ?_
 refine goCh Hz (.loadBR m20 (i := 23) rfl rfl U38 rfl fct2 (by simp) (by dsimp only [List.drop, List.take] <;> rfl) <| .loadBR m20 (i := 26) rfl rfl U38 rfl fct2 (by simp) (by dsimp only [List.drop, List.take] <;> rfl) .nil) fun Az Hz => ?_
 have m25 := m20.freezeR 22 rfl
 have m26 := m25.freezeR 25 rfl
 refine plz (ecl Hz Tryd.func10 rfl (merge_yes kA kB _ _ _ _ _ _ _ ((m26.rd (i := 22) rfl).any) ((m26.rd (i := 25) rfl).any) kAok kBok kAio kBio kFol) ?_)
 rintro e w27 ⟨p27, c27, rfl, hd27, hb27⟩
 rw [kMrg] at hd27 ⊢
 have m28 := m26.callF 27 rfl hb27 hd27
 refine ⟨_, rfl, ?_⟩; intro Az Hz
 refine goCh Hz (.move rfl <| .extract rfl rfl <| .extract rfl rfl .nil) fun Az Hz => ?_
 refine plz (e_alloc Hz m28 28 fct17 rfl fun g33 Az w34 Hz m34 _ _ => ?_)
 refine plz (stw Hz m34 28 fct2 fun w35 m35 _ => ?_)
 refine gz hK2 Hz (.assign rfl .nil) fun Az Hz => ?_
 replace Hz := Hz.oz [0, 1, 2, 3, 4]
 refine zsr fun K3 hK3 => ?_
 refine goCh Hz (.loadBR m35 (i := 26) rfl rfl U38 rfl fct2 (by simp) (by dsimp only [List.drop, List.take] <;> rfl) <| .loadBR m35 (i := 23) rfl rfl U38 rfl fct2 (by simp) (by dsimp only [List.drop, List.take] <;> rfl) .nil) fun Az Hz => ?_
 refine plz (ecb Hz Tryd.func10 rfl m35 (merge_no kB kA _ _ _ _ _ _ _ ((m35.rd (i := 25) rfl).any) ((m35.rd (i := 22) rfl).any) kBok kAok kNof) fun Az w42 Hz m43 => ?_)
 refine goCh Hz (.move rfl <| .extract rfl rfl <| .extract rfl rfl .nil) fun Az Hz => ?_
 refine plz (e_alloc Hz m43 30 fct17 rfl fun g48 Az w49 Hz m49 _ _ => ?_)
 refine plz (stw Hz m49 30 fct2 fun w50 m50 _ => ?_)
 refine gz hK3 Hz (.assign rfl .nil) fun Az Hz => ?_
 replace Hz := Hz.oz [0, 1, 2, 3, 4, 6]
 refine zsr fun K4 hK4 => ?_
 refine goCh Hz (.loadBR m50 (i := 23) rfl rfl U38 rfl fct2 (by simp) (by dsimp only [List.drop, List.take] <;> rfl) <| .loadBR m50 (i := 26) rfl rfl U38 rfl fct2 (by simp) (by dsimp only [List.drop, List.take] <;> rfl) .nil) fun Az Hz => ?_
 refine plz (e_litR Hz m50 31 (mm := 5) rfl (.cons rfl rfl (.cons (.v _) (.cons (.v _) (.cons (.v _) (.cons (.v _) (.cons (m50.rd (i := 22) rfl) .nil))))) <| .cons rfl rfl (.cons (.v _) (.cons (.v _) (.cons (.v _) (.cons (.v _) (.cons (m50.rd (i := 25) rfl) .nil))))) .nil) U26 fct23 rfl rfl rfl rfl rfl fun g57 Az w58 Hz m58 => ?_)
 have m59 := m58.freezeR 31 rfl
 refine plz (ecl Hz Tryd.func11 rfl (all_yes [kA, kB] _ _ _ _ ((m59.rd (i := 31) rfl).any) (by decide) kOks kCh (by decide) kIos) ?_)
 rintro e w60 ⟨sv, p60, c60, hE, hsl, hso, rfl, hd60, hb60⟩
 revert Hz
 obtain rfl : sv = kM := hE.pair.trans kMrg
 intro Hz
 have m61 := m59.callF 32 rfl hb60 hd60
 refine ⟨_, rfl, ?_⟩; intro Az Hz
 refine goCh Hz (.move rfl <| .extract rfl rfl <| .extract rfl rfl .nil) fun Az Hz => ?_
 refine plz (e_alloc Hz m61 33 fct17 rfl fun g66 Az w67 Hz m67 _ _ => ?_)
 refine plz (stw Hz m67 33 fct2 fun w68 m68 _ => ?_)
 refine gz hK4 Hz (.assign rfl .nil) fun Az Hz => ?_
 replace Hz := Hz.oz [0, 1, 2, 3, 4, 6, 7, 8]
 refine zsr fun K5 hK5 => ?_
 refine goCh Hz (.loadBR m68 (i := 33) rfl rfl U38 rfl fct2 (by simp) (by dsimp only [List.drop, List.take] <;> rfl) .nil) fun Az Hz => ?_
 refine plz (ecl Hz Tryd.func12 rfl (blocks_yes kM _ _ _ _ ((m68.rd (i := 32) rfl).any) kMok kMio (by decide)) ?_)
 rintro e w73 ⟨p73, c73, rfl, hd73, hb73⟩
 have m74 := m68.callF 34 rfl hb73 hd73
 refine ⟨_, rfl, ?_⟩; intro Az Hz
 refine gz hK5 Hz (.assign rfl .nil) fun Az Hz => ?_
 refine zsr fun K6 hK6 => ?_
 refine plz (ecb Hz Tryd.func7 rfl m74 (decode_none _) fun Az w77 Hz m78 => ?_)
 refine gz hK6 Hz (.move rfl <| .extract rfl rfl <| .extract rfl rfl <| .extract rfl rfl <| .assign rfl <| .assign rfl <| .assign rfl <| .nil) fun Az Hz => ?_
 replace Hz := Hz.oz [0, 1, 2, 3, 4, 6, 7, 8, 9, 11, 12]
 refine zsr fun K7 hK7 => ?_
 refine goCh Hz (.move rfl <| .eql rfl rfl <| .move rfl .nil) fun Az Hz => ?_
 refine bc Hz 54 ?_ ?_
 rotate_left
 · intro hb _; exact absurd hb (by first | exact fun h => kStr h | decide | (simp; done) | (intro h; revert h; first | decide | (exact fun h => by cases h)))
 clear Hz; intro _ Hz
 refine goCh Hz (.loadBRZ m78 (i := 28) rfl rfl U38 rfl fct2 (by simp) (by dsimp only [List.drop, List.take] <;> rfl) <| .loadBRZ m78 (i := 33) rfl rfl U38 rfl fct2 (by simp) (by dsimp only [List.drop, List.take] <;> rfl) .nil) fun Az Hz => ?_
 refine stz Hz (ecb Hz Tryd.func9 rfl m78 (streams_same kM _ _ _ _ _ _ _ ((m78.rd (i := 27) rfl).any) ((m78.rd (i := 32) rfl).any) (by decide)) fun Az w97 Hz m98 => ?_)
 refine goCh Hz (.pickT rfl rfl <| .move rfl <| .moveZ rfl <| .eqlZ rfl rfl <| .pickT rfl rfl <| .move rfl .nil) fun Az Hz => ?_
 refine bc Hz 63 ?_ ?_
 rotate_left
 · intro hb _; exact absurd hb (by first | exact fun h => kStr h | decide | (simp; done) | (intro h; revert h; first | decide | (exact fun h => by cases h)))
 clear Hz; intro _ Hz
 refine goCh Hz (.moveZ rfl <| .eqlZ rfl rfl <| .pickT rfl rfl <| .move rfl .nil) fun Az Hz => ?_
 refine bc Hz 67 ?_ ?_
 rotate_left
 · intro hb _; exact absurd hb (by first | exact fun h => kStr h | decide | (simp; done) | (intro h; revert h; first | decide | (exact fun h => by cases h)))
 clear Hz; intro _ Hz
 refine goCh Hz (.moveZ rfl <| .lenZ rfl U23 <| .eqlZ rfl rfl <| .pickT rfl rfl <| .move rfl .nil) fun Az Hz => ?_
 refine bc Hz 72 ?_ ?_
 rotate_left
 · intro hb _; exact absurd hb (by first | exact fun h => kStr h | decide | (simp; done) | (intro h; revert h; first | decide | (exact fun h => by cases h)))
 clear Hz; intro _ Hz
 refine goCh Hz (.moveZ rfl .nil) fun Az Hz => ?_
 obtain ⟨b119, o119, vs119, hp119, hR119, ho119, m119⟩ := m98.openR (i := 34) rfl (1) (r := [.ns .u8 [122]]) rfl 35 rfl
 revert Hz
 cases hp119; clear m98 ho119
 rcases hR119 with _ | ⟨hd119_0, _ | _⟩
 obtain ⟨p120, c120, hv120, hc120⟩ := hd119_0.ns_shape; subst hv120
 intro Hz
 have m120 := m119.dat 36 rfl (hd119_0.cast (fun _ h => (free_add rfl h))); clear m119 hd119_0
 refine goCh Hz (.g rfl rfl rfl rfl (fun _ h => y_idx h rfl rfl U23 fct8 (1) rfl (by decide)) <| .loadC0Z m120 (i := 35) rfl rfl U22 rfl <| .strZ rfl (m120.nums (i := 36) rfl) U22 U5 U9 <| .eqlSZ rfl rfl <| .pickT rfl rfl <| .move rfl .nil) fun Az Hz => ?_
 refine bc Hz 79 ?_ ?_
 rotate_left
 · intro hb _; exact absurd hb (by first | exact fun h => kStr h | decide | (simp; done) | (intro h; revert h; first | decide | (exact fun h => by cases h)))
 clear Hz; intro _ Hz
 refine goCh Hz (.loadBRZ m120 (i := 23) rfl rfl U38 rfl fct2 (by simp) (by dsimp only [List.drop, List.take] <;> rfl) <| .loadBRZ m120 (i := 26) rfl rfl U38 rfl fct2 (by simp) (by dsimp only [List.drop, List.take] <;> rfl) .nil) fun Az Hz => ?_
 refine stz Hz (e_litR Hz m120 37 (mm := 5) rfl (.cons rfl rfl (.cons (.v _) (.cons (.v _) (.cons (.v _) (.cons (.v _) (.cons (m120.rd (i := 22) rfl) .nil))))) <| .cons rfl rfl (.cons (.v _) (.cons (.v _) (.cons (.v _) (.cons (.v _) (.cons (m120.rd (i := 25) rfl) .nil))))) .nil) U26 fct23 rfl rfl rfl rfl rfl fun g130 Az w131 Hz m131 => ?_)
 have m132 := m131.freezeR 37 rfl
 refine stz Hz (ecl Hz Tryd.func13 rfl (cright_any [kA, kB] _ _ _ _ ((m132.rd (i := 37) rfl).any) (by decide) kOks) ?_)
 rintro e w133 ⟨rb, rfl, hrb, hb133⟩
 revert Hz
 obtain rfl : rb = true := hrb.2 kCh
 intro Hz
 have m134 := m132.later hb133
 refine ⟨_, rfl, ?_⟩; intro Az Hz
 refine goCh Hz (.pickT rfl rfl <| .move rfl <| .loadBRZ m134 (i := 26) rfl rfl U38 rfl fct2 (by simp) (by dsimp only [List.drop, List.take] <;> rfl) .nil) fun Az Hz => ?_
 refine stz Hz (e_litR Hz m134 38 (mm := 5) rfl (.cons rfl rfl (.cons (.v _) (.cons (.v _) (.cons (.v _) (.cons (.v _) (.cons (m134.rd (i := 25) rfl) .nil))))) .nil) U26 fct23 rfl rfl rfl rfl rfl fun g139 Az w140 Hz m140 => ?_)
 have m141 := m140.freezeR 38 rfl
 refine stz Hz (ecl Hz Tryd.func13 rfl (cright_any [kB] _ _ _ _ ((m141.rd (i := 38) rfl).any) (by decide) kOks1) ?_)
 rintro e w142 ⟨rb, rfl, hrb, hb142⟩
 obtain rfl : rb = false := by cases rb; rfl; exact absurd (hrb.1 rfl) kNch
 have m143 := m141.later hb142
 refine ⟨_, rfl, ?_⟩; intro Az Hz
 refine goCh Hz (.notZ rfl <| .pickT rfl rfl <| .move rfl <| .loadBRZ m143 (i := 23) rfl rfl U38 rfl fct2 (by simp) (by dsimp only [List.drop, List.take] <;> rfl) <| .loadBRZ m143 (i := 26) rfl rfl U38 rfl fct2 (by simp) (by dsimp only [List.drop, List.take] <;> rfl) .nil) fun Az Hz => ?_
 refine stz Hz (ecl Hz Tryd.func14 rfl (follows_any kA kB _ _ _ _ _ _ _ ((m143.rd (i := 22) rfl).any) ((m143.rd (i := 25) rfl).any) kAok kBok) ?_)
 rintro e w150 ⟨fb, rfl, hfb, hb150⟩
 revert Hz
 obtain rfl : fb = true := hfb.2 kFol
 intro Hz
 have m151 := m143.later hb150
 refine ⟨_, rfl, ?_⟩; intro Az Hz
 refine goCh Hz (.pickT rfl rfl <| .move rfl <| .moveZ rfl <| .eqlZ rfl rfl <| .pickT rfl rfl <| .move rfl .nil) fun Az Hz => ?_
 refine bc Hz 100 ?_ ?_
 rotate_left
 · intro hb _; exact absurd hb (by first | exact fun h => kStr h | decide | (simp; done) | (intro h; revert h; first | decide | (exact fun h => by cases h)))
 clear Hz; intro _ Hz
 refine gz hK7 Hz (.moveZ rfl <| .eqlZ rfl rfl <| .pickT rfl rfl <| .assign rfl <| .nil) fun Az Hz => ?_
 refine rt1 Hz ?_
 exact ⟨by first | rfl | simp | decide, m151.below⟩
end Go.Proofs.YtcccomafnmdlfaaDoor.K
