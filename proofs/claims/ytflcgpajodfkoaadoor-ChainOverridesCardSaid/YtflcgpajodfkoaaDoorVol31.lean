/- The reference's ReadCmd: some call, its lists bounded. -/
import Derived.Test.YtflcgpajodfkoaaDoorVol30
import Derived.Test.YtflcgpajodfkoaaDoorVol26
namespace Go.Proofs.YtflcgpajodfkoaaDoor.K
open Go.ChangeShapes Go.WideShapes Go.ChangeAt Go.RowKit
set_option linter.unusedVariables false
set_option linter.unusedSimpArgs false
theorem fl87rC : flatS Tryd.prog 87 [.int .i64 0, .int .i64 0, .int .i64 0, .int .i64 0, .int .i64 0, .slice none 0 0, .int .i64 0, .int .i64 0, .int .i64 0, .slice none 0 0] = true := by kernel_rfl
theorem fl111rC : flatS Tryd.prog 111 [.slice none 0 0, .int .i64 0] = true := by kernel_rfl
set_option maxRecDepth 100000
set_option maxHeartbeats 4000000
theorem rreadCmd (X : Cx) (b : List Int) (p : Option Addr) (c : Nat) (w0 : World) (hb : b.length ≤ 1000000) (hbb : BytesL b) (m0 : MemOk X w0 [(1, .dat (.slice p b.length c) (.ns .u8 b))] w0) :
   Calls Tryd.prog 63 #[.slice p b.length c] w0 fun e w' => ∃ (kd vo bl sz pe to at0 ix : Int) (place : List Int) (items : List (Int × List Int)) (pp : Option Addr) (cp : Nat) (pi : Option Addr) (ci : Nat) (er : Int), e = .returned (.tuple #[.agg #[.int .i64 kd, .int .i64 vo, .int .i64 bl, .int .i64 sz, .int .i64 pe, .slice pp place.length cp, .int .i64 to, .int .i64 at0, .int .i64 ix, .slice pi (items.map itD).length ci], .int .i64 er]) ∧ place.length ≤ 256 ∧ items.length ≤ 8 ∧ (∀ e ∈ items, e.2.length ≤ 32 ∧ BytesL e.2) ∧ MemOk X w0 [(1, .dat (.slice pp place.length cp) (.ns .i64 place)), (2, .dat (.slice pi (items.map itD).length ci) (.l 2 (items.map itD)))] w' := by
 refine ent1 Tryd.func63 rfl Tryd.ntmps63 fun Az Hz => ?_
 refine zsr fun K0 hK0 => ?_
 refine wpList_plain rfl (fun K hK => ?_)
 refine e_alloc Hz m0 20 fct14 rfl ?_
 clear Hz Az m0; intro g1 Az w2 Hz m2 hB2 hg2
 clear hB2 hg2
 refine hK _ _ ?_; clear hK
 refine goCh Hz (.assign rfl .nil) ?_
 clear Hz Az; intro Az Hz
 refine znl (hK0 _ _ ?_); clear hK0
 refine zsr fun K1 hK1 => ?_
 refine goCh Hz (.move rfl <| .build rfl fct31 fl111rC rfl (by dsimp only [setL, List.set] <;> rfl) <| .nil) ?_
 clear Hz Az; intro Az Hz
 refine wpList_plain rfl (fun K hK => ?_)
 refine e_box Hz m2 21 (cs := [_, _]) rfl rfl rfl ?_
 clear Hz Az m2; intro g8 Az w9 Hz m9 hB9 hg9
 clear hB9 hg9
 refine hK _ _ ?_; clear hK
 refine goCh Hz (.assign rfl .nil) ?_
 clear Hz Az; intro Az Hz
 refine znl (hK1 _ _ ?_); clear hK1
 refine zsr fun K2 hK2 => ?_
 refine wpList_plain rfl (fun K hK => ?_)
 refine e_alloc Hz m9 22 fct14 rfl ?_
 clear Hz Az m9; intro g11 Az w12 Hz m12 hB12 hg12
 clear hB12 hg12
 refine hK _ _ ?_; clear hK
 refine znl (hK2 _ _ ?_); clear hK2
 refine zsr fun K3 hK3 => ?_
 refine goCh Hz (.move rfl .nil) ?_
 clear Hz Az; intro Az Hz
 have m15 := m12.dat 23 rfl (m12.rd (i := 1) rfl); clear m12
 refine wpList_plain rfl (fun K hK => ?_)
 refine e_call Hz Tryd.func54 rfl rfl rfl rfl (rnum _ _ b _ 8 _ _ _ (by omega) hbb (by decide) (m15.into [(1, 21), (2, 23)] (by decide) rfl)) ?_
 rintro e w16 ⟨kd, b1, p16, c16, er16, rfl, hukd, hlb1, hbb1, hm16⟩
 have mx16 := m15.back hm16 [(21, 1), (24, 2)] (by decide); clear hm16 m15
 have m16 : MemOk _ _ [(21, _), (24, _), (1, _), (20, _), (22, _)] _ := mx16.only [21, 24, 1, 20, 22]; clear mx16
 refine ⟨_, rfl, ?_⟩; clear Hz Az; intro Az Hz
 refine hK _ _ ?_; clear hK
 refine goCh Hz (.conv rfl U71 U3 (IntWalk.i64_in _ (by omega)) <| .fa 0 rfl U87 <| .nil) ?_
 clear Hz Az; intro Az Hz
 refine wpList_plain rfl (fun K hK => ?_)
 refine e_store1 Hz m16 22 rfl rfl rfl rfl rfl fct8 (by dsimp only [List.set] <;> rfl) ?_
 clear m16; intro w20 m20 hB20
 clear hB20
 refine hK _ _ ?_; clear hK
 refine znl (hK3 _ _ ?_); clear hK3
 replace Hz : Has 72 [(0, _), (2, _), (3, _), (4, _), (5, _)] Az := Hz.only [0, 2, 3, 4, 5]
 refine zsr fun K4 hK4 => ?_
 refine goCh Hz (.move rfl .nil) ?_
 clear Hz Az; intro Az Hz
 refine wpList_plain rfl (fun K hK => ?_)
 refine e_call Hz Tryd.func54 rfl rfl rfl rfl (rnum _ _ b1 _ 8 _ _ _ (by omega) hbb1 (by decide) (m20.into [(1, 21), (2, 24)] (by decide) rfl)) ?_
 rintro e w24 ⟨vo, b2, p24, c24, er24, rfl, huvo, hlb2, hbb2, hm24⟩
 have mx24 := m20.back hm24 [(21, 1), (25, 2)] (by decide); clear hm24 m20
 have m24 : MemOk _ _ [(21, _), (25, _), (1, _), (20, _), (22, _)] _ := mx24.only [21, 25, 1, 20, 22]; clear mx24
 refine ⟨_, rfl, ?_⟩; clear Hz Az; intro Az Hz
 refine hK _ _ ?_; clear hK
 refine goCh Hz (.conv rfl U71 U3 (IntWalk.i64_in _ (by omega)) <| .fa 1 rfl U87 <| .nil) ?_
 clear Hz Az; intro Az Hz
 refine wpList_plain rfl (fun K hK => ?_)
 refine e_store1 Hz m24 22 rfl rfl rfl rfl rfl fct8 (by dsimp only [List.set] <;> rfl) ?_
 clear m24; intro w28 m28 hB28
 clear hB28
 refine hK _ _ ?_; clear hK
 refine znl (hK4 _ _ ?_); clear hK4
 refine zsr fun K5 hK5 => ?_
 refine goCh Hz (.move rfl .nil) ?_
 clear Hz Az; intro Az Hz
 refine wpList_plain rfl (fun K hK => ?_)
 refine e_call Hz Tryd.func54 rfl rfl rfl rfl (rnum _ _ b2 _ 1099511627776 _ _ _ (by omega) hbb2 (by decide) (m28.into [(1, 21), (2, 25)] (by decide) rfl)) ?_
 rintro e w31 ⟨bl, b3, p31, c31, er31, rfl, hubl, hlb3, hbb3, hm31⟩
 have mx31 := m28.back hm31 [(21, 1), (26, 2)] (by decide); clear hm31 m28
 have m31 : MemOk _ _ [(21, _), (26, _), (1, _), (20, _), (22, _)] _ := mx31.only [21, 26, 1, 20, 22]; clear mx31
 refine ⟨_, rfl, ?_⟩; clear Hz Az; intro Az Hz
 refine hK _ _ ?_; clear hK
 refine goCh Hz (.conv rfl U71 U3 (IntWalk.i64_in _ (by omega)) <| .fa 2 rfl U87 <| .nil) ?_
 clear Hz Az; intro Az Hz
 refine wpList_plain rfl (fun K hK => ?_)
 refine e_store1 Hz m31 22 rfl rfl rfl rfl rfl fct8 (by dsimp only [List.set] <;> rfl) ?_
 clear m31; intro w35 m35 hB35
 clear hB35
 refine hK _ _ ?_; clear hK
 refine znl (hK5 _ _ ?_); clear hK5
 replace Hz : Has 72 [(0, _), (2, _), (3, _), (4, _), (5, _)] Az := Hz.only [0, 2, 3, 4, 5]
 refine zsr fun K6 hK6 => ?_
 refine goCh Hz (.move rfl .nil) ?_
 clear Hz Az; intro Az Hz
 refine wpList_plain rfl (fun K hK => ?_)
 refine e_call Hz Tryd.func54 rfl rfl rfl rfl (rnum _ _ b3 _ 1099511627776 _ _ _ (by omega) hbb3 (by decide) (m35.into [(1, 21), (2, 26)] (by decide) rfl)) ?_
 rintro e w39 ⟨sz, b4, p39, c39, er39, rfl, husz, hlb4, hbb4, hm39⟩
 have mx39 := m35.back hm39 [(21, 1), (27, 2)] (by decide); clear hm39 m35
 have m39 : MemOk _ _ [(21, _), (27, _), (1, _), (20, _), (22, _)] _ := mx39.only [21, 27, 1, 20, 22]; clear mx39
 refine ⟨_, rfl, ?_⟩; clear Hz Az; intro Az Hz
 refine hK _ _ ?_; clear hK
 refine goCh Hz (.conv rfl U71 U3 (IntWalk.i64_in _ (by omega)) <| .fa 3 rfl U87 <| .nil) ?_
 clear Hz Az; intro Az Hz
 refine wpList_plain rfl (fun K hK => ?_)
 refine e_store1 Hz m39 22 rfl rfl rfl rfl rfl fct8 (by dsimp only [List.set] <;> rfl) ?_
 clear m39; intro w43 m43 hB43
 clear hB43
 refine hK _ _ ?_; clear hK
 refine znl (hK6 _ _ ?_); clear hK6
 refine zsr fun K7 hK7 => ?_
 refine goCh Hz (.move rfl .nil) ?_
 clear Hz Az; intro Az Hz
 refine wpList_plain rfl (fun K hK => ?_)
 refine e_call Hz Tryd.func54 rfl rfl rfl rfl (rnum _ _ b4 _ 1099511627776 _ _ _ (by omega) hbb4 (by decide) (m43.into [(1, 21), (2, 27)] (by decide) rfl)) ?_
 rintro e w46 ⟨pe, b5, p46, c46, er46, rfl, hupe, hlb5, hbb5, hm46⟩
 have mx46 := m43.back hm46 [(21, 1), (28, 2)] (by decide); clear hm46 m43
 have m46 : MemOk _ _ [(21, _), (28, _), (1, _), (20, _), (22, _)] _ := mx46.only [21, 28, 1, 20, 22]; clear mx46
 refine ⟨_, rfl, ?_⟩; clear Hz Az; intro Az Hz
 refine hK _ _ ?_; clear hK
 refine goCh Hz (.conv rfl U71 U3 (IntWalk.i64_in _ (by omega)) <| .fa 4 rfl U87 <| .nil) ?_
 clear Hz Az; intro Az Hz
 refine wpList_plain rfl (fun K hK => ?_)
 refine e_store1 Hz m46 22 rfl rfl rfl rfl rfl fct8 (by dsimp only [List.set] <;> rfl) ?_
 clear m46; intro w50 m50 hB50
 clear hB50
 refine hK _ _ ?_; clear hK
 refine znl (hK7 _ _ ?_); clear hK7
 replace Hz : Has 72 [(0, _), (2, _), (3, _), (4, _), (5, _)] Az := Hz.only [0, 2, 3, 4, 5]
 refine zsr fun K8 hK8 => ?_
 refine goCh Hz (.move rfl .nil) ?_
 clear Hz Az; intro Az Hz
 refine wpList_plain rfl (fun K hK => ?_)
 refine e_call Hz Tryd.func54 rfl rfl rfl rfl (rnum _ _ b5 _ 1099511627776 _ _ _ (by omega) hbb5 (by decide) (m50.into [(1, 21), (2, 28)] (by decide) rfl)) ?_
 rintro e w54 ⟨to, b6, p54, c54, er54, rfl, huto, hlb6, hbb6, hm54⟩
 have mx54 := m50.back hm54 [(21, 1), (29, 2)] (by decide); clear hm54 m50
 have m54 : MemOk _ _ [(21, _), (29, _), (1, _), (20, _), (22, _)] _ := mx54.only [21, 29, 1, 20, 22]; clear mx54
 refine ⟨_, rfl, ?_⟩; clear Hz Az; intro Az Hz
 refine hK _ _ ?_; clear hK
 refine goCh Hz (.conv rfl U71 U3 (IntWalk.i64_in _ (by omega)) <| .fa 6 rfl U87 <| .nil) ?_
 clear Hz Az; intro Az Hz
 refine wpList_plain rfl (fun K hK => ?_)
 refine e_store1 Hz m54 22 rfl rfl rfl rfl rfl fct8 (by dsimp only [List.set] <;> rfl) ?_
 clear m54; intro w58 m58 hB58
 clear hB58
 refine hK _ _ ?_; clear hK
 refine znl (hK8 _ _ ?_); clear hK8
 refine zsr fun K9 hK9 => ?_
 refine goCh Hz (.move rfl .nil) ?_
 clear Hz Az; intro Az Hz
 refine wpList_plain rfl (fun K hK => ?_)
 refine e_call Hz Tryd.func54 rfl rfl rfl rfl (rnum _ _ b6 _ 1099511627776 _ _ _ (by omega) hbb6 (by decide) (m58.into [(1, 21), (2, 29)] (by decide) rfl)) ?_
 rintro e w61 ⟨at0, b7, p61, c61, er61, rfl, huat0, hlb7, hbb7, hm61⟩
 have mx61 := m58.back hm61 [(21, 1), (30, 2)] (by decide); clear hm61 m58
 have m61 : MemOk _ _ [(21, _), (30, _), (1, _), (20, _), (22, _)] _ := mx61.only [21, 30, 1, 20, 22]; clear mx61
 refine ⟨_, rfl, ?_⟩; clear Hz Az; intro Az Hz
 refine hK _ _ ?_; clear hK
 refine goCh Hz (.conv rfl U71 U2 (IntWalk.i64_in _ (by omega)) <| .fa 7 rfl U87 <| .nil) ?_
 clear Hz Az; intro Az Hz
 refine wpList_plain rfl (fun K hK => ?_)
 refine e_store1 Hz m61 22 rfl rfl rfl rfl rfl fct23 (by dsimp only [List.set] <;> rfl) ?_
 clear m61; intro w65 m65 hB65
 clear hB65
 refine hK _ _ ?_; clear hK
 refine znl (hK9 _ _ ?_); clear hK9
 replace Hz : Has 72 [(0, _), (2, _), (3, _), (4, _), (5, _)] Az := Hz.only [0, 2, 3, 4, 5]
 refine zsr fun K10 hK10 => ?_
 refine goCh Hz (.move rfl .nil) ?_
 clear Hz Az; intro Az Hz
 refine wpList_plain rfl (fun K hK => ?_)
 refine e_call Hz Tryd.func54 rfl rfl rfl rfl (rnum _ _ b7 _ 1099511627776 _ _ _ (by omega) hbb7 (by decide) (m65.into [(1, 21), (2, 30)] (by decide) rfl)) ?_
 rintro e w69 ⟨ix, b8, p69, c69, er69, rfl, huix, hlb8, hbb8, hm69⟩
 have mx69 := m65.back hm69 [(21, 1), (31, 2)] (by decide); clear hm69 m65
 have m69 : MemOk _ _ [(21, _), (31, _), (1, _), (20, _), (22, _)] _ := mx69.only [21, 31, 1, 20, 22]; clear mx69
 refine ⟨_, rfl, ?_⟩; clear Hz Az; intro Az Hz
 refine hK _ _ ?_; clear hK
 refine goCh Hz (.conv rfl U71 U3 (IntWalk.i64_in _ (by omega)) <| .fa 8 rfl U87 <| .nil) ?_
 clear Hz Az; intro Az Hz
 refine wpList_plain rfl (fun K hK => ?_)
 refine e_store1 Hz m69 22 rfl rfl rfl rfl rfl fct8 (by dsimp only [List.set] <;> rfl) ?_
 clear m69; intro w73 m73 hB73
 clear hB73
 refine hK _ _ ?_; clear hK
 refine znl (hK10 _ _ ?_); clear hK10
 refine zsr fun K11 hK11 => ?_
 refine goCh Hz (.move rfl .nil) ?_
 clear Hz Az; intro Az Hz
 refine wpList_plain rfl (fun K hK => ?_)
 refine e_call Hz Tryd.func84 rfl rfl rfl rfl (rtakePlace _ _ b8 _ _ _ _ (by omega) hbb8 (m73.into [(1, 21), (2, 31)] (by decide) rfl)) ?_
 rintro e w76 ⟨place, b9, p76, c76, er76, p376, c376, rfl, hpl, hlb9, hbb9, hm76⟩
 have mx76 := m73.back hm76 [(21, 1), (32, 2), (33, 3)] (by decide); clear hm76 m73
 have m76 : MemOk _ _ [(21, _), (32, _), (33, _), (1, _), (20, _), (22, _)] _ := mx76.only [21, 32, 33, 1, 20, 22]; clear mx76
 refine ⟨_, rfl, ?_⟩; clear Hz Az; intro Az Hz
 refine hK _ _ ?_; clear hK
 refine goCh Hz (.fieldAddr (off := 5) rfl U87 rfl (s := 0) (by kernel_rfl) rfl .nil) ?_
 clear Hz Az; intro Az Hz
 refine wpList_plain rfl (fun K hK => ?_)
 refine e_store1 Hz m76 22 rfl rfl rfl rfl rfl fct13 (by dsimp only [List.set] <;> rfl) ?_
 clear m76; intro w79 m79 hB79
 clear hB79
 refine hK _ _ ?_; clear hK
 refine znl (hK11 _ _ ?_); clear hK11
 replace Hz : Has 72 [(0, _), (2, _), (3, _), (4, _), (5, _)] Az := Hz.only [0, 2, 3, 4, 5]
 refine zsr fun K12 hK12 => ?_
 refine goCh Hz (.move rfl .nil) ?_
 clear Hz Az; intro Az Hz
 refine wpList_plain rfl (fun K hK => ?_)
 refine e_call Hz Tryd.func85 rfl rfl rfl rfl (rtakeItems _ _ b9 _ _ _ _ (by omega) hbb9 (m79.into [(1, 21), (2, 32)] (by decide) rfl)) ?_
 rintro e w83 ⟨items, b10, p83, c83, er83, p383, c383, rfl, hil, hii, hlb10, hbb10, hm83⟩
 have mx83 := m79.back hm83 [(21, 1), (34, 2), (35, 3)] (by decide); clear hm83 m79
 have m83 : MemOk _ _ [(21, _), (34, _), (35, _), (1, _), (20, _), (22, _), (33, _)] _ := mx83.only [21, 34, 35, 1, 20, 22, 33]; clear mx83
 refine ⟨_, rfl, ?_⟩; clear Hz Az; intro Az Hz
 refine hK _ _ ?_; clear hK
 refine goCh Hz (.fieldAddr (off := 9) rfl U87 rfl (s := 0) (by kernel_rfl) rfl .nil) ?_
 clear Hz Az; intro Az Hz
 refine wpList_plain rfl (fun K hK => ?_)
 refine e_store1 Hz m83 22 rfl rfl rfl rfl rfl fct27 (by dsimp only [List.set] <;> rfl) ?_
 clear m83; intro w86 m86 hB86
 clear hB86
 refine hK _ _ ?_; clear hK
 refine znl (hK12 _ _ ?_); clear hK12
 refine zsr fun K13 hK13 => ?_
 refine goCh Hz (.loadBR m86 (i := 22) rfl rfl U87 rfl fct11 (by simp) (by dsimp only [List.drop, List.take] <;> rfl) .nil) ?_
 clear Hz Az; intro Az Hz
 refine wpList_plain rfl (fun K hK => ?_)
 refine e_call Hz Tryd.func39 rfl rfl rfl rfl (rputCmd _ _ _ _ _ _ _ _ place items _ _ _ _ _ _ ((m86.rd (i := 33) rfl).any) ((m86.rd (i := 35) rfl).any) (by omega) (by omega) (fun e he => (hii e he).2)) ?_
 rintro e w89 ⟨ob, p89, c89, e9, rfl, hol, hob, ho89, hb89⟩
 have m90 := m86.callD 36 rfl hb89 (ho89.cast (fun b hb => Or.inr hb))
 clear m86
 clear hb89 ho89
 refine ⟨_, rfl, ?_⟩; clear Hz Az; intro Az Hz
 refine hK _ _ ?_; clear hK
 refine goCh Hz (.move rfl <| .extract rfl rfl <| .extract rfl rfl <| .assign rfl <| .assign rfl <| .nil) ?_
 clear Hz Az; intro Az Hz
 refine znl (hK13 _ _ ?_); clear hK13
 refine wp_seq_k (fun K14 hK14 => ?_)
 replace Hz : Has 72 [(0, _), (2, _), (3, _), (4, _), (5, _), (6, _), (7, _)] Az := Hz.only [0, 2, 3, 4, 5, 6, 7]
 refine zsr fun K15 hK15 => ?_
 refine goCh Hz (.move rfl <| .nilCheck rfl <| .fa 1 rfl U111 <| .lb m90 21 U3 rfl rfl rfl <| .neq rfl rfl <| .move rfl <| .nil) ?_
 clear Hz Az; intro Az Hz
 refine bool_cases Hz (t := 59) rfl ?_ ?_
 ·
  clear Hz; intro hb110 Hz; try simp only [QQ, Qax] at hb110
  refine goCh Hz (.sk <| .sk <| .pickT rfl rfl <| .move rfl <| .sk <| .sk <| .sk <| .sk <| .sk <| .pickT rfl rfl <| .nil) ?_
  clear Hz Az; intro Az Hz
  refine znl (hK15 _ _ ?_); clear hK15
  refine wp_cond_true (Hz.ev (x := .tmp 69) rfl) ?_
  replace Hz : Has 72 [(2, _), (3, _), (5, _)] Az := Hz.only [2, 3, 5]
  refine zsr fun K16 hK16 => ?_
  refine goCh Hz (.build rfl fct14 fl87rC rfl (by dsimp only [setL, List.set] <;> rfl) .nil) ?_
  clear Hz Az; intro Az Hz
  refine wpList_plain rfl (fun K hK => ?_)
  refine e_storeW Hz m90 20 rfl rfl rfl rfl rfl fct11 ?_
  clear m90; intro w124 m124 hB124
  clear hB124
  refine hK _ _ ?_; clear hK
  refine goCh Hz (.assign rfl .nil) ?_
  clear Hz Az; intro Az Hz
  refine znl (hK16 _ _ ?_); clear hK16
  refine wp_ret ?_
  try dsimp only [Exit.then, Exit.inBlock]
  refine (retCT (fn := Tryd.f63) Hz m124 (i := 20) rfl rfl rfl rfl U87 rfl fct11 ?_)
  have mA := m124.dat 91 rfl (Rd.nilN _ _ .i64 none)
  have mB := mA.dat 92 rfl (Rd.l0 none 0 2)
  exact ⟨0, 0, 0, 0, 0, 0, 0, 0, [], [], none, 0, none, 0, _, rfl, by simp, by simp, (fun e h => by cases h), mB.ren [(1, 91), (2, 92)] (by decide)⟩
 clear Hz; intro hb110 Hz; try simp only [QQ, Qax] at hb110
 refine goCh Hz (.moveZ rfl <| .neqZ rfl rfl <| .pickF rfl rfl <| .move rfl <| .nil) ?_
 clear Hz Az; intro Az Hz
 refine bool_cases Hz (t := 63) rfl ?_ ?_
 ·
  clear Hz; intro hb130 Hz; try simp only [QQ, Qax] at hb130
  refine goCh Hz (.sk <| .sk <| .sk <| .sk <| .sk <| .pickT rfl rfl <| .nil) ?_
  clear Hz Az; intro Az Hz
  refine znl (hK15 _ _ ?_); clear hK15
  refine wp_cond_true (Hz.ev (x := .tmp 69) rfl) ?_
  replace Hz : Has 72 [(2, _), (3, _), (5, _)] Az := Hz.only [2, 3, 5]
  refine zsr fun K17 hK17 => ?_
  refine goCh Hz (.build rfl fct14 fl87rC rfl (by dsimp only [setL, List.set] <;> rfl) .nil) ?_
  clear Hz Az; intro Az Hz
  refine wpList_plain rfl (fun K hK => ?_)
  refine e_storeW Hz m90 20 rfl rfl rfl rfl rfl fct11 ?_
  clear m90; intro w140 m140 hB140
  clear hB140
  refine hK _ _ ?_; clear hK
  refine goCh Hz (.assign rfl .nil) ?_
  clear Hz Az; intro Az Hz
  refine znl (hK17 _ _ ?_); clear hK17
  refine wp_ret ?_
  try dsimp only [Exit.then, Exit.inBlock]
  refine (retCT (fn := Tryd.f63) Hz m140 (i := 20) rfl rfl rfl rfl U87 rfl fct11 ?_)
  have mA := m140.dat 91 rfl (Rd.nilN _ _ .i64 none)
  have mB := mA.dat 92 rfl (Rd.l0 none 0 2)
  exact ⟨0, 0, 0, 0, 0, 0, 0, 0, [], [], none, 0, none, 0, _, rfl, by simp, by simp, (fun e h => by cases h), mB.ren [(1, 91), (2, 92)] (by decide)⟩
 clear Hz; intro hb130 Hz; try simp only [QQ, Qax] at hb130
 refine goCh Hz (.moveZ rfl <| .strZ rfl (m90.nums (i := 36) rfl) U22 U5 U9 <| .moveZ rfl <| .strZ rfl (m90.nums (i := 1) rfl) U22 U5 U9 <| .neqSZ rfl rfl <| .pickF rfl rfl <| .nil) ?_
 clear Hz Az; intro Az Hz
 refine znl (hK15 _ _ ?_); clear hK15
 refine bool_cases Hz (t := 69) rfl ?_ ?_
 ·
  clear Hz; intro hb148 Hz; try simp only [QQ, Qax] at hb148
  refine wp_cond_true (Hz.ev (x := .tmp 69) rfl) ?_
  replace Hz : Has 72 [(2, _), (3, _), (5, _)] Az := Hz.only [2, 3, 5]
  refine zsr fun K18 hK18 => ?_
  refine goCh Hz (.build rfl fct14 fl87rC rfl (by dsimp only [setL, List.set] <;> rfl) .nil) ?_
  clear Hz Az; intro Az Hz
  refine wpList_plain rfl (fun K hK => ?_)
  refine e_storeW Hz m90 20 rfl rfl rfl rfl rfl fct11 ?_
  clear m90; intro w152 m152 hB152
  clear hB152
  refine hK _ _ ?_; clear hK
  refine goCh Hz (.assign rfl .nil) ?_
  clear Hz Az; intro Az Hz
  refine znl (hK18 _ _ ?_); clear hK18
  refine wp_ret ?_
  try dsimp only [Exit.then, Exit.inBlock]
  refine (retCT (fn := Tryd.f63) Hz m152 (i := 20) rfl rfl rfl rfl U87 rfl fct11 ?_)
  have mA := m152.dat 91 rfl (Rd.nilN _ _ .i64 none)
  have mB := mA.dat 92 rfl (Rd.l0 none 0 2)
  exact ⟨0, 0, 0, 0, 0, 0, 0, 0, [], [], none, 0, none, 0, _, rfl, by simp, by simp, (fun e h => by cases h), mB.ren [(1, 91), (2, 92)] (by decide)⟩
 clear Hz; intro hb148 Hz; try simp only [QQ, Qax] at hb148
 refine wp_cond_false (Hz.ev (x := .tmp 69) rfl) ?_
 refine zss (hK14 _ _ ?_); clear hK14
 replace Hz : Has 72 [(2, _), (3, _), (5, _)] Az := Hz.only [2, 3, 5]
 refine zsr fun K19 hK19 => ?_
 refine goCh Hz (.loadBR m90 (i := 22) rfl rfl U87 rfl fct11 (by simp) (by dsimp only [List.drop, List.take] <;> rfl) .nil) ?_
 clear Hz Az; intro Az Hz
 refine wpList_plain rfl (fun K hK => ?_)
 refine e_storeW Hz m90 20 rfl rfl rfl rfl rfl fct11 ?_
 clear m90; intro w157 m157 hB157
 clear hB157
 refine hK _ _ ?_; clear hK
 refine goCh Hz (.assign rfl .nil) ?_
 clear Hz Az; intro Az Hz
 refine znl (hK19 _ _ ?_); clear hK19
 refine wp_ret ?_
 try dsimp only [Exit.then, Exit.inBlock]
 refine (retCT (fn := Tryd.f63) Hz m157 (i := 20) rfl rfl rfl rfl U87 rfl fct11 ?_)
 exact ⟨kd, vo, bl, sz, pe, to, at0, ix, place, items, _, _, _, _, _, rfl, hpl, hil, hii, m157.ren [(1, 33), (2, 35)] (by decide)⟩
end Go.Proofs.YtflcgpajodfkoaaDoor.K
