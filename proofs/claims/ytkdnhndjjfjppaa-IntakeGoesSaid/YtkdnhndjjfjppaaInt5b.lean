/- The reference's machine of one volume: what Apply of a call's own bytes makes of it. -/
import Derived.Test.YtkdnhndjjfjppaaInt5
namespace Go.Proofs.Ytkdnhndjjfjppaa.K
open Go.ChangeShapes Go.WideShapes Go.ChangeAt Go.RowKit
set_option linter.unusedVariables false
set_option linter.unusedSimpArgs false
theorem fl59xan : flatS Try.prog 59 [.int .i64 0, .int .i64 0, .int .i64 0, .int .i64 0, .slice none 0 0] = true := by kernel_rfl
theorem rread_y (X : Cx) (kd vo bl sz pe to at0 ix : Int) (place : List Int) (items : List (Int × List Int)) (p : Option Addr) (c : Nat) (w0 : World) (hc : CmdOk kd vo bl sz pe to at0 ix place items) (m0 : MemOk X w0 [(1, .dat (.slice p (cmdE kd vo bl sz pe to at0 ix place items).length c) (.ns .u8 (cmdE kd vo bl sz pe to at0 ix place items)))] w0) :
   Calls Try.prog 43 #[.slice p (cmdE kd vo bl sz pe to at0 ix place items).length c] w0 fun e w' => ∃ (pp : Option Addr) (cp : Nat) (pi : Option Addr) (ci : Nat), e = .returned (.tuple #[.agg #[.int .i64 kd, .int .i64 vo, .int .i64 bl, .int .i64 sz, .int .i64 pe, .slice pp place.length cp, .int .i64 to, .int .i64 at0, .int .i64 ix, .slice pi items.length ci], .int .i64 0]) ∧ MemOk X w0 [(1, .dat (.slice pp place.length cp) (.ns .i64 place)), (2, .dat (.slice pi items.length ci) (.l 2 (items.map itD)))] w' := by
 refine (rreadCmd_x X kd vo bl sz pe to at0 ix place items p c w0 hc m0).mono ?_
 rintro e w' ⟨pp, cp, pi, ci, rfl, m⟩
 rw [List.length_map] at m
 exact ⟨pp, cp, pi, ci, rfl, m⟩
def DoY (x y : VolV) (kd at0 ix : Int) (its : List (Int × List Int)) (e9 : Int) : Prop := y.vo = x.vo ∧ y.bl = x.bl ∧ y.sz = x.sz ∧ y.pe = x.pe ∧ y.place = x.place ∧ y.to = x.to ∧ y.pins = x.pins ∧ doR x.bl x.sz x.to x.ne x.fl x.hi x.pins x.ws kd at0 ix its = (y.ne, y.hi, y.fl, y.ws, e9)
theorem rDoY (X : Cx) (x : VolV) (n : Nat) (hx : VolS n x) (hn : n ≤ 800000) (items : List (Int × List Int)) (pp pn pw : Option Addr) (cp cn9 cw : Nat) (pi : Option Addr) (ci : Nat) (kd v1 v2 v3 v4 v5 at0 ix : Int) (q1 : Option Addr) (n1 c1 : Nat) (w0 : World) (hk4 : kd ≠ 4) (hk5 : kd ≠ 5) (hil : items.length ≤ 1000000) (hio : ItsOk items) (m0 : MemOk X w0 [(1, .dat (.slice pp x.place.length cp) (.ns .i64 x.place)), (2, .dat (.slice pn x.pins.length cn9) (.ns .i64 x.pins)), (3, .dat (.slice pw (x.ws.map wrD).length cw) (.l 2 (x.ws.map wrD))), (4, .dat (.slice pi items.length ci) (.l 2 (items.map itD)))] w0) :
   Calls Try.prog 44 #[.agg #[.int .i64 x.vo, .int .i64 x.bl, .int .i64 x.sz, .int .i64 x.pe, .slice pp x.place.length cp, .int .i64 x.to, .int .i64 x.ne, .bool x.hi, .int .i64 x.fl, .slice pn x.pins.length cn9, .slice pw (x.ws.map wrD).length cw], .agg #[.int .i64 kd, .int .i64 v1, .int .i64 v2, .int .i64 v3, .int .i64 v4, .slice q1 n1 c1, .int .i64 v5, .int .i64 at0, .int .i64 ix, .slice pi items.length ci]] w0 fun e w' => ∃ (y : VolV) (e9 rl rf rn : Int) (p1 p2 p3 : Option Addr) (d1 d2 d3 : Nat), e = .returned (.tuple #[.agg #[.int .i64 y.vo, .int .i64 y.bl, .int .i64 y.sz, .int .i64 y.pe, .slice p1 y.place.length d1, .int .i64 y.to, .int .i64 y.ne, .bool y.hi, .int .i64 y.fl, .slice p2 y.pins.length d2, .slice p3 (y.ws.map wrD).length d3], .agg #[.int .i64 e9, .int .i64 rl, .int .i64 rf, .int .i64 rn, .slice none 0 0]]) ∧ DoY x y kd at0 ix items e9 ∧ MemOk X w0 [(1, .dat (.slice p1 y.place.length d1) (.ns .i64 y.place)), (2, .dat (.slice p2 y.pins.length d2) (.ns .i64 y.pins)), (3, .dat (.slice p3 (y.ws.map wrD).length d3) (.l 2 (y.ws.map wrD)))] w' := by
 obtain ⟨h1, h2, h3, h4, h5⟩ := hx
 obtain ⟨vo, bl, sz, pe, place, to, ne, hi, fl, pins, ws⟩ := x
 simp only at *
 have hne : -1000000000000000 ≤ ne ∧ ne ≤ 1000000000000000 := by
   obtain ⟨⟨a1, a2, a3, a4, a5, a6, a7, a8, a9, a10, a11⟩, b1, b2, b3⟩ := h1
   omega
 refine (rDo X vo bl sz pe to ne fl hi place pins ws items pp pn pw cp cn9 cw pi ci kd v1 v2 v3 v4 v5 at0 ix q1 n1 c1 w0 hk4 hk5 hne (by omega) (by omega) hil hio m0).mono ?_
 rintro e w' ⟨ne', hi', fl', ws', e9, rl, rf, rn, p3, d3, rfl, hd, hr, m⟩
 exact ⟨⟨vo, bl, sz, pe, place, to, ne', hi', fl', pins, ws'⟩, e9, rl, rf, rn, _, _, _, _, _, _, rfl, ⟨rfl, rfl, rfl, rfl, rfl, rfl, rfl, hd⟩, m.ren [(1, 1), (2, 2), (3, 7)] (by decide)⟩
set_option maxRecDepth 100000
set_option maxHeartbeats 4000000
theorem rapply_new (X : Cx) (B : Nat) (L : List VolV) (p : Option Addr) (c : Nat) (vo bl sz pe to at0 ix : Int) (place : List Int) (items : List (Int × List Int)) (pb : Option Addr) (cb : Nat) (w0 : World) (hL : L = []) (hN : NewOk vo bl sz pe to place) (hc : CmdOk 1 vo bl sz pe to at0 ix place items) (m0 : MemOk X w0 [(1, .box B 45 [.slice p (L.map volD).length c]), (2, .dat (.slice p (L.map volD).length c) (.l 11 (L.map volD))), (3, .dat (.slice pb (cmdE 1 vo bl sz pe to at0 ix place items).length cb) (.ns .u8 (cmdE 1 vo bl sz pe to at0 ix place items)))] w0) :
   Calls Try.prog 19 #[.pointer (some ⟨B, 0, none⟩), .slice pb (cmdE 1 vo bl sz pe to at0 ix place items).length cb] w0 fun e w' => ∃ (p' : Option Addr) (c' : Nat), e = .returned (.agg #[.int .i64 0, .int .i64 0, .int .i64 0, .int .i64 0, .slice none 0 0]) ∧ MemOk X w0 [(1, .box B 45 [.slice p' ([newV vo bl sz pe to place].map volD).length c']), (2, .dat (.slice p' ([newV vo bl sz pe to place].map volD).length c') (.l 11 ([newV vo bl sz pe to place].map volD)))] w' := by
 refine ent2 Try.func19 rfl Try.ntmps19 fun Az Hz => ?_
 have hl : L.length ≤ 1000000 := by rw [hL]; simp
 have hlm : (L.map volD).length ≤ 1000000 := by simpa using hl
 have hpl := hc.pl
 refine sr fun K0 hK0 => ?_
 refine wpList_plain rfl (fun K hK => ?_)
 refine e_alloc Hz m0 20 fct8 rfl ?_
 clear Hz Az m0; intro g1 Az w2 Hz m2 hB2 hg2
 clear hB2 hg2
 refine hK _ _ ?_; clear hK
 refine nl (hK0 _ _ ?_); clear hK0
 refine sr fun K1 hK1 => ?_
 refine goCh Hz (.move rfl .nil) ?_
 clear Hz Az; intro Az Hz
 refine wpList_plain rfl (fun K hK => ?_)
 refine e_call Hz Try.func43 rfl rfl rfl rfl (rread_y _ 1 vo bl sz pe to at0 ix place items _ _ _ hc (m2.into [(1, 3)] (by decide) rfl)) ?_
 rintro e w5 ⟨pp5, cp5, pi5, ci5, rfl, hm5⟩
 have mx5 := m2.back hm5 [(21, 1), (22, 2)] (by decide); clear hm5 m2
 have m5 : MemOk _ _ [(21, _), (22, _), (1, _), (2, _), (20, _)] _ := mx5.only [21, 22, 1, 2, 20]; clear mx5
 refine ⟨_, rfl, ?_⟩; clear Hz Az; intro Az Hz
 refine hK _ _ ?_; clear hK
 refine goCh Hz (.move rfl <| .extract rfl rfl <| .extract rfl rfl <| .nil) ?_
 clear Hz Az; intro Az Hz
 refine wpList_plain rfl (fun K hK => ?_)
 refine e_alloc Hz m5 23 fct17 rfl ?_
 clear Hz Az m5; intro g10 Az w11 Hz m11 hB11 hg11
 clear hB11 hg11
 refine hK _ _ ?_; clear hK
 refine wpList_plain rfl (fun K hK => ?_)
 refine e_storeW Hz m11 23 rfl rfl rfl rfl rfl fct3 ?_
 clear m11; intro w12 m12 hB12
 clear hB12
 refine hK _ _ ?_; clear hK
 refine goCh Hz (.assign rfl .nil) ?_
 clear Hz Az; intro Az Hz
 refine nl (hK1 _ _ ?_); clear hK1
 refine wp_seq_k (fun K2 hK2 => ?_)
 replace Hz : Has 97 [(0, _), (4, _), (5, _), (6, _)] Az := Hz.only [0, 4, 5, 6]
 refine regS Hz (.move rfl <| .neq rfl rfl <| .nil) ?_
 clear Hz Az; intro Az Hz
 refine bool_cases Hz (t := 19) rfl ?_ ?_
 · intro hb _; exact absurd hb (by simp)
 clear Hz; intro _ Hz
 refine wp_cond_false (Hz.ev (x := .tmp 19) rfl) ?_
 refine ss (hK2 _ _ ?_); clear hK2
 refine sr fun K3 hK3 => ?_
 refine goCh Hz (.move rfl <| .fa 1 rfl U57 <| .lb m12 23 U3 rfl rfl rfl <| .nil) ?_
 clear Hz Az; intro Az Hz
 refine wpList_plain rfl (fun K hK => ?_)
 refine e_call Hz Try.func33 rfl rfl rfl rfl (rfind_x _ _ L _ _ _ _ hl (m12.into [(1, 1), (2, 2)] (by decide) rfl)) ?_
 rintro e w24 ⟨j, rfl, hj, hm24⟩
 have mx24 := m12.back hm24 [(1, 1), (2, 2)] (by decide); clear hm24 m12
 have m24 : MemOk _ _ [(1, _), (2, _), (20, _), (21, _), (22, _), (23, _)] _ := mx24.only [1, 2, 20, 21, 22, 23]; clear mx24
 refine ⟨_, rfl, ?_⟩; clear Hz Az; intro Az Hz
 refine hK _ _ ?_; clear hK
 obtain rfl : j = -1 := by
   rcases hj with ⟨h, -⟩ | ⟨k, e, rfl, h1, h2⟩
   · exact h
   rw [hL] at h1; simp at h1
 refine goCh Hz (.assign rfl .nil) ?_
 clear Hz Az; intro Az Hz
 refine nl (hK3 _ _ ?_); clear hK3
 replace Hz : Has 97 [(0, _), (4, _), (5, _), (7, _)] Az := Hz.only [0, 4, 5, 7]
 refine sr fun K4 hK4 => ?_
 refine goCh Hz (.move rfl <| .nilCheck rfl <| .fa 0 rfl U45 <| .lb m24 1 U43 rfl rfl rfl <| .nil) ?_
 clear Hz Az; intro Az Hz
 have m36 := m24.nilR 24 49 11
 clear m24
 refine wpList_plain rfl (fun K hK => ?_)
 refine e_appR Hz m36 24 rfl rfl rfl (m36.rd (i := 2) rfl) U43 fct27 rfl rfl (by decide) (by simp; omega) rfl ?_
 clear Hz Az m36; intro p37 c37 Az w38 Hz m38
 refine hK _ _ ?_; clear hK
 refine goCh Hz (.assign rfl .nil) ?_
 clear Hz Az; intro Az Hz
 refine nl (hK4 _ _ ?_); clear hK4
 refine wp_seq_k (fun K5 hK5 => ?_)
 refine regS Hz (.fa 0 rfl U57 <| .lb m38 23 U3 rfl rfl rfl <| .eql rfl rfl <| .nil) ?_
 clear Hz Az; intro Az Hz
 refine bool_cases Hz (t := 32) rfl ?_ ?_
 rotate_left
 · intro hb _; exact absurd hb (by simp)
 clear Hz; intro _ Hz
 refine wp_cond_true (Hz.ev (x := .tmp 32) rfl) ?_
 refine wp_seq_k (fun K6 hK6 => ?_)
 replace Hz : Has 97 [(0, _), (4, _), (5, _), (7, _), (8, _)] Az := Hz.only [0, 4, 5, 7, 8]
 refine sr fun K7 hK7 => ?_
 have m46 := m38.freezeR 24 rfl; clear m38
 refine goCh Hz (.move rfl <| .geq rfl rfl <| .nil) ?_
 clear Hz Az; intro Az Hz
 refine nl (hK7 _ _ ?_); clear hK7
 refine bool_cases Hz (t := 34) rfl ?_ ?_
 · intro hb _; exact absurd hb (by simp)
 clear Hz; intro _ Hz
 refine wp_cond_false (Hz.ev (x := .tmp 34) rfl) ?_
 refine ss (hK6 _ _ ?_); clear hK6
 refine sr fun K8 hK8 => ?_
 refine goCh Hz (.loadBR m46 (i := 23) rfl rfl U57 rfl fct3 (by simp) (by dsimp only [List.drop, List.take] <;> rfl) .nil) ?_
 clear Hz Az; intro Az Hz
 refine wpList_plain rfl (fun K hK => ?_)
 refine e_call Hz Try.func31 rfl rfl rfl rfl (rnew_yes _ vo bl sz pe to _ _ place _ _ _ _ _ _ ((m46.rd (i := 21) rfl).any) (by omega) hN) ?_
 rintro e w52 ⟨p52, c52, rfl, hd52, hb52⟩
 have m53 := m46.callF 25 rfl hb52 hd52
 clear m46
 clear hb52 hd52
 refine ⟨_, rfl, ?_⟩; clear Hz Az; intro Az Hz
 refine hK _ _ ?_; clear hK
 refine goCh Hz (.move rfl <| .extract rfl rfl <| .extract rfl rfl <| .nil) ?_
 clear Hz Az; intro Az Hz
 refine wpList_plain rfl (fun K hK => ?_)
 refine e_alloc Hz m53 26 fct7 rfl ?_
 clear Hz Az m53; intro g58 Az w59 Hz m59 hB59 hg59
 clear hB59 hg59
 refine hK _ _ ?_; clear hK
 refine wpList_plain rfl (fun K hK => ?_)
 refine e_storeW Hz m59 26 rfl rfl rfl rfl rfl fct2 ?_
 clear m59; intro w60 m60 hB60
 clear hB60
 refine hK _ _ ?_; clear hK
 refine goCh Hz (.assign rfl .nil) ?_
 clear Hz Az; intro Az Hz
 refine nl (hK8 _ _ ?_); clear hK8
 refine wp_seq_k (fun K9 hK9 => ?_)
 replace Hz : Has 97 [(0, _), (4, _), (5, _), (7, _), (8, _), (9, _), (10, _)] Az := Hz.only [0, 4, 5, 7, 8, 9, 10]
 refine regS Hz (.move rfl <| .neq rfl rfl <| .nil) ?_
 clear Hz Az; intro Az Hz
 refine bool_cases Hz (t := 42) rfl ?_ ?_
 · intro hb _; exact absurd hb (by simp)
 clear Hz; intro _ Hz
 refine wp_cond_false (Hz.ev (x := .tmp 42) rfl) ?_
 refine ss (hK9 _ _ ?_); clear hK9
 refine regS Hz (.assign rfl <| .nil) ?_
 clear Hz Az; intro Az Hz
 refine wp_seq_k (fun K10 hK10 => ?_)
 refine wp_block ?_
 refine wp_loop_ghost (fun g a w => ∃ (k B4 B5 B9 c8 c9 n1 d1 n2 d2 : Nat) (p8 p9 q1 q2 : Option Addr), k ≤ (L.map volD).length ∧ g = (L.map volD).length - k ∧ Has 97 [(0, .pointer (some ⟨B, 0, none⟩)), (4, .pointer (some ⟨B4, 0, none⟩)), (5, .pointer (some ⟨B5, 0, none⟩)), (7, .int .i64 k), (8, .slice p8 (L.map volD).length c8), (9, .pointer (some ⟨B9, 0, none⟩))] a ∧ MemOk X w0 [(1, .box B 45 [.slice p (L.map volD).length c]), (2, .dat (.slice p (L.map volD).length c) (.l 11 (L.map volD))), (4, .box B4 59 [.int .i64 0, .int .i64 0, .int .i64 0, .int .i64 0, .slice none 0 0]), (5, .box B5 57 [.int .i64 1, .int .i64 vo, .int .i64 bl, .int .i64 sz, .int .i64 pe, .slice q1 n1 d1, .int .i64 to, .int .i64 at0, .int .i64 ix, .slice q2 n2 d2]), (9, .box B9 49 [.int .i64 vo, .int .i64 bl, .int .i64 sz, .int .i64 pe, .slice p9 place.length c9, .int .i64 to, .int .i64 0, .bool (decide (0 < to)), .int .i64 0, .slice none 0 0, .slice none 0 0]), (8, .dat (.slice p8 (L.map volD).length c8) (.l 11 (L.map volD))), (10, .dat (.slice p9 place.length c9) (.ns .i64 place))] w) ((L.map volD).length) ?_ ?_
 · exact ⟨0, _, _, _, _, _, _, _, _, _, _, _, _, _, Nat.zero_le _, rfl, Hz.only [0, 4, 5, 7, 8, 9], m60.ren [(1, 1), (2, 2), (4, 20), (5, 23), (9, 26), (8, 24), (10, 25)] (by decide)⟩
 clear Hz m60
 rintro g Az w67 ⟨k, B4, B5, B9, c8, c9, n1, d1, n2, d2, p8, p9, q1, q2, hkl, hg, Hz, m67⟩
 refine wp_seq_k (fun K11 hK11 => ?_)
 refine wp_seq_k (fun K12 hK12 => ?_)
 have m68 : MemOk _ _ [(1, _), (2, _), (4, _), (5, _), (8, _), (9, _), (10, _)] _ := m67.only [1, 2, 4, 5, 8, 9, 10]; clear m67
 refine region_p 14 (B := [(1, _), (2, _), (4, _), (5, _), (8, _), (9, _), (10, _)]) (m68.to ⟨il, il, il, il, il, il, il, trivial⟩) m68 (by kernel_rfl) (fun w69 hP69 m69 => ?_); clear m68
 refine goA hP69 [0, 1, 2, 3, 4] 5 0 31 Hz (m69.to ⟨il, il, il, il, il, il, il, trivial⟩) (.move rfl <| .move rfl <| .len rfl U43 <| .lss rfl rfl <| .move rfl <| .nil) ?_
 clear Hz Az; intro Az Hz
 refine bool_cases Hz (t := 49) rfl ?_ ?_
 · intro hb _; exact absurd hb (by simp [hL])
 clear Hz; intro _ Hz
 refine goA hP69 [5, 6, 7, 8, 9, 10, 11, 12, 13] 9 31 16383 Hz (m69.to ⟨il, il, il, il, il, il, il, trivial⟩) (.s <| .s <| .s <| .s <| .s <| .s <| .s <| .s <| .pickF rfl rfl <| .nil) ?_
 clear Hz Az; intro Az Hz
 refine wpAnyE_done (by kernel_rfl) ?_ _
 refine hK12 _ _ ?_; clear hK12
 refine wp_cond_false (Hz.ev (x := .tmp 58) rfl) ?_
 refine wp_exit ?_
 refine hK10 _ _ ?_; clear hK10
 refine wp_seq_k (fun K13 hK13 => ?_)
 replace Hz : Has 97 [(0, _), (4, _), (5, _), (7, _), (8, _), (9, _)] Az := Hz.only [0, 4, 5, 7, 8, 9]
 have m86 : MemOk _ _ [(1, _), (2, _), (4, _), (5, _), (8, _), (9, _), (10, _)] _ := m69.only [1, 2, 4, 5, 8, 9, 10]; clear m69
 refine region_p 14 (B := [(1, _), (2, _), (4, _), (5, _), (8, _), (9, _), (10, _)]) (m86.to ⟨il, il, il, il, il, il, il, trivial⟩) m86 (by kernel_rfl) (fun w87 hP87 m87 => ?_); clear m86
 refine goA hP87 [0, 1, 2] 3 0 7 Hz (m87.to ⟨il, il, il, il, il, il, il, trivial⟩) (.move rfl <| .move rfl <| .move rfl <| .nil) ?_
 clear Hz Az; intro Az Hz
 have hcap92 := Rd.capL (m87.rd (i := 8) rfl)
 have m91 := m87.takeR (i := 8) rfl k hkl 100 rfl; clear m87
 refine goR hP87 [3, 5, 8, 9] [5] 4 7 815 Hz (m91.to ⟨il, il, il, il, il, il, il, trivial⟩) (.p (fun _ _ h => y_sliceHn h k rfl rfl U43 fct2 rfl (Nat.le_trans hkl hcap92)) <| .loadBR hh (i := 9) rfl rfl U49 rfl fct2 (by simp) (by dsimp only [List.drop, List.take] <;> rfl) <| .move rfl <| .move rfl <| .nil) ?_
 clear Hz Az; intro Az Hz
 have m97 := m91.dropR (i := 8) rfl k hkl 101 rfl; clear m91
 refine goA hP87 [10] 1 815 1839 Hz (m97.to ⟨il, il, il, il, il, il, il, trivial⟩) (.p (fun _ _ h => y_sliceLn h k rfl rfl U43 fct2 rfl hkl) <| .nil) ?_
 clear Hz Az; intro Az Hz
 refine d_two 4 6 rfl rfl (by kernel_rfl) rfl rfl (fun K hK => ?_) (fun K hK => ?_)
 ·
  have m99 := m97.nilR 102 49 11
  clear m97
  refine e_appR Hz m99 102 rfl rfl rfl (m99.rd (i := 100) rfl) U43 fct27 rfl rfl (by decide) (by simp; omega) rfl ?_
  clear Hz Az m99; intro p100 c100 Az w101 Hz m101
  refine hK _ _ (fun _ => (m101.to ⟨il, il, il, il, il, il, il, trivial⟩)) ?_; clear hK K
  refine stepE_only 6 rfl (by kernel_rfl) rfl (fun K hK => ?_)
  refine e_litR Hz m101 103 (mm := 11) rfl (.cons rfl rfl (.cons (.v _) (.cons (.v _) (.cons (.v _) (.cons (.v _) (.cons (m101.rd (i := 10) rfl) (.cons (.v _) (.cons (.v _) (.cons (.v _) (.cons (.v _) (.cons (Rd.nilN _ _ .i64 _) (.cons (.l0 _ _ 2) .nil))))))))))) <| .nil) U43 fct27 rfl rfl rfl rfl rfl ?_
  clear Hz Az m101; intro g102 Az w103 Hz m103
  refine hK _ _ (m103.to ⟨il, il, il, il, il, il, il, trivial⟩) ?_; clear hK K
  have m105 := m103.freezeR 103 rfl; clear m103
  refine stepE_only 7 rfl (by kernel_rfl) rfl (fun K hK => ?_)
  refine e_appR Hz m105 102 rfl rfl rfl (m105.rd (i := 103) rfl) U43 fct27 rfl rfl (by decide) (by simp; omega) rfl ?_
  clear Hz Az m105; intro p104 c104 Az w106 Hz m106
  refine hK _ _ (m106.to ⟨il, il, il, il, il, il, il, trivial⟩) ?_; clear hK K
  refine stepE_only 11 rfl (by kernel_rfl) rfl (fun K hK => ?_)
  refine e_appR Hz m106 102 rfl rfl rfl (m106.rd (i := 101) rfl) U43 fct27 rfl rfl (by decide) (by simp; omega) rfl ?_
  clear Hz Az m106; intro p107 c107 Az w108 Hz m108
  refine hK _ _ (m108.to ⟨il, il, il, il, il, il, il, trivial⟩) ?_; clear hK K
  refine goA hP87 [12, 13] 2 4095 16383 Hz (m108.to ⟨il, il, il, il, il, il, il, trivial⟩) (.nilCheck rfl <| .fa 0 rfl U45 <| .nil) ?_
  clear Hz Az; intro Az Hz
  refine stepE_end 14 rfl (by kernel_rfl) rfl (by rfl) (fun K hK => ?_)
  refine e_store1 Hz m108 1 rfl rfl rfl rfl rfl fct28 (by dsimp only [List.set] <;> rfl) ?_
  clear m108; intro w111 m111 hB111
  clear hB111
  refine hK _ _ ?_; clear hK
  refine wpAnyE_done (by kernel_rfl) ?_ _
  refine hK13 _ _ ?_; clear hK13
  replace Hz : Has 97 [(0, _), (4, _), (5, _), (7, _), (8, _), (9, _)] Az := Hz.only [0, 4, 5, 7, 8, 9]
  refine sr fun K14 hK14 => ?_
  refine goCh Hz (.build rfl fct8 fl59xan rfl (by dsimp only [setL, List.set] <;> rfl) .nil) ?_
  clear Hz Az; intro Az Hz
  refine wpList_plain rfl (fun K hK => ?_)
  refine e_storeW Hz m111 4 rfl rfl rfl rfl rfl fct4 ?_
  clear m111; intro w115 m115 hB115
  clear hB115
  refine hK _ _ ?_; clear hK
  refine nl (hK14 _ _ ?_); clear hK14
  refine wp_ret ?_
  try dsimp only [Exit.then, Exit.inBlock]
  refine (retC (fn := Try.f19) Hz m115 (i := 4) rfl rfl rfl U59 rfl fct4 ?_)
  have m116 := m115.freezeR 102 rfl; clear m115
  have hrw : [] ++ List.take k (L.map volD) ++ [[.v (.int .i64 (newV vo bl sz pe to place).vo), .v (.int .i64 (newV vo bl sz pe to place).bl), .v (.int .i64 (newV vo bl sz pe to place).sz), .v (.int .i64 (newV vo bl sz pe to place).pe), .ns .i64 (newV vo bl sz pe to place).place, .v (.int .i64 (newV vo bl sz pe to place).to), .v (.int .i64 (newV vo bl sz pe to place).ne), .v (.bool (newV vo bl sz pe to place).hi), .v (.int .i64 (newV vo bl sz pe to place).fl), .ns .i64 (newV vo bl sz pe to place).pins, .l 2 ((newV vo bl sz pe to place).ws.map wrD)]] ++ List.drop k (L.map volD) = [newV vo bl sz pe to place].map volD := by rw [hL]; simp [volD, newV]
  simp only [newV] at hrw
  erw [hrw] at m116
  exact ⟨_, _, rfl, m116.ren [(1, 1), (2, 102)] (by decide)⟩
 refine e_litR Hz m97 102 (mm := 11) rfl (.cons rfl rfl (.cons (.v _) (.cons (.v _) (.cons (.v _) (.cons (.v _) (.cons (m97.rd (i := 10) rfl) (.cons (.v _) (.cons (.v _) (.cons (.v _) (.cons (.v _) (.cons (Rd.nilN _ _ .i64 _) (.cons (.l0 _ _ 2) .nil))))))))))) <| .nil) U43 fct27 rfl rfl rfl rfl rfl ?_
 clear Hz Az m97; intro g117 Az w118 Hz m118
 refine hK _ _ (fun _ => (m118.to ⟨il, il, il, il, il, il, il, trivial⟩)) ?_; clear hK K
 have m119 := m118.nilR 103 49 11
 clear m118
 refine stepE_only 4 rfl (by kernel_rfl) rfl (fun K hK => ?_)
 refine e_appR Hz m119 103 rfl rfl rfl (m119.rd (i := 100) rfl) U43 fct27 rfl rfl (by decide) (by simp; omega) rfl ?_
 clear Hz Az m119; intro p120 c120 Az w121 Hz m121
 refine hK _ _ (m121.to ⟨il, il, il, il, il, il, il, trivial⟩) ?_; clear hK K
 have m123 := m121.freezeR 102 rfl; clear m121
 refine stepE_only 7 rfl (by kernel_rfl) rfl (fun K hK => ?_)
 refine e_appR Hz m123 103 rfl rfl rfl (m123.rd (i := 102) rfl) U43 fct27 rfl rfl (by decide) (by simp; omega) rfl ?_
 clear Hz Az m123; intro p122 c122 Az w124 Hz m124
 refine hK _ _ (m124.to ⟨il, il, il, il, il, il, il, trivial⟩) ?_; clear hK K
 refine stepE_only 11 rfl (by kernel_rfl) rfl (fun K hK => ?_)
 refine e_appR Hz m124 103 rfl rfl rfl (m124.rd (i := 101) rfl) U43 fct27 rfl rfl (by decide) (by simp; omega) rfl ?_
 clear Hz Az m124; intro p125 c125 Az w126 Hz m126
 refine hK _ _ (m126.to ⟨il, il, il, il, il, il, il, trivial⟩) ?_; clear hK K
 refine goA hP87 [12, 13] 2 4095 16383 Hz (m126.to ⟨il, il, il, il, il, il, il, trivial⟩) (.nilCheck rfl <| .fa 0 rfl U45 <| .nil) ?_
 clear Hz Az; intro Az Hz
 refine stepE_end 14 rfl (by kernel_rfl) rfl (by rfl) (fun K hK => ?_)
 refine e_store1 Hz m126 1 rfl rfl rfl rfl rfl fct28 (by dsimp only [List.set] <;> rfl) ?_
 clear m126; intro w129 m129 hB129
 clear hB129
 refine hK _ _ ?_; clear hK
 refine wpAnyE_done (by kernel_rfl) ?_ _
 refine hK13 _ _ ?_; clear hK13
 replace Hz : Has 97 [(0, _), (4, _), (5, _), (7, _), (8, _), (9, _)] Az := Hz.only [0, 4, 5, 7, 8, 9]
 refine sr fun K15 hK15 => ?_
 refine goCh Hz (.build rfl fct8 fl59xan rfl (by dsimp only [setL, List.set] <;> rfl) .nil) ?_
 clear Hz Az; intro Az Hz
 refine wpList_plain rfl (fun K hK => ?_)
 refine e_storeW Hz m129 4 rfl rfl rfl rfl rfl fct4 ?_
 clear m129; intro w133 m133 hB133
 clear hB133
 refine hK _ _ ?_; clear hK
 refine nl (hK15 _ _ ?_); clear hK15
 refine wp_ret ?_
 try dsimp only [Exit.then, Exit.inBlock]
 refine (retC (fn := Try.f19) Hz m133 (i := 4) rfl rfl rfl U59 rfl fct4 ?_)
 have m134 := m133.freezeR 103 rfl; clear m133
 have hrw : [] ++ List.take k (L.map volD) ++ [[.v (.int .i64 (newV vo bl sz pe to place).vo), .v (.int .i64 (newV vo bl sz pe to place).bl), .v (.int .i64 (newV vo bl sz pe to place).sz), .v (.int .i64 (newV vo bl sz pe to place).pe), .ns .i64 (newV vo bl sz pe to place).place, .v (.int .i64 (newV vo bl sz pe to place).to), .v (.int .i64 (newV vo bl sz pe to place).ne), .v (.bool (newV vo bl sz pe to place).hi), .v (.int .i64 (newV vo bl sz pe to place).fl), .ns .i64 (newV vo bl sz pe to place).pins, .l 2 ((newV vo bl sz pe to place).ws.map wrD)]] ++ List.drop k (L.map volD) = [newV vo bl sz pe to place].map volD := by rw [hL]; simp [volD, newV]
 simp only [newV] at hrw
 erw [hrw] at m134
 exact ⟨_, _, rfl, m134.ren [(1, 1), (2, 103)] (by decide)⟩
theorem rapply_do (X : Cx) (B n : Nat) (L : List VolV) (x : VolV) (p : Option Addr) (c : Nat) (kd vo bl sz pe to at0 ix : Int) (place : List Int) (items : List (Int × List Int)) (pb : Option Addr) (cb : Nat) (w0 : World) (hL : L = [x]) (hxv : x.vo = vo) (hxS : VolS n x) (hn : n ≤ 800000) (hk1 : kd ≠ 1) (hk4 : kd ≠ 4) (hk5 : kd ≠ 5) (hc : CmdOk kd vo bl sz pe to at0 ix place items) (m0 : MemOk X w0 [(1, .box B 45 [.slice p (L.map volD).length c]), (2, .dat (.slice p (L.map volD).length c) (.l 11 (L.map volD))), (3, .dat (.slice pb (cmdE kd vo bl sz pe to at0 ix place items).length cb) (.ns .u8 (cmdE kd vo bl sz pe to at0 ix place items)))] w0) :
   Calls Try.prog 19 #[.pointer (some ⟨B, 0, none⟩), .slice pb (cmdE kd vo bl sz pe to at0 ix place items).length cb] w0 fun e w' => ∃ (y : VolV) (e9 rl rf rn : Int) (p' : Option Addr) (c' : Nat), e = .returned (.agg #[.int .i64 e9, .int .i64 rl, .int .i64 rf, .int .i64 rn, .slice none 0 0]) ∧ DoY x y kd at0 ix items e9 ∧ MemOk X w0 [(1, .box B 45 [.slice p' ([y].map volD).length c']), (2, .dat (.slice p' ([y].map volD).length c') (.l 11 ([y].map volD)))] w' := by
 refine ent2 Try.func19 rfl Try.ntmps19 fun Az Hz => ?_
 have hl : L.length ≤ 1000000 := by rw [hL]; simp
 have hlm : (L.map volD).length ≤ 1000000 := by simpa using hl
 have hpl := hc.pl
 refine sr fun K0 hK0 => ?_
 refine wpList_plain rfl (fun K hK => ?_)
 refine e_alloc Hz m0 20 fct8 rfl ?_
 clear Hz Az m0; intro g1 Az w2 Hz m2 hB2 hg2
 clear hB2 hg2
 refine hK _ _ ?_; clear hK
 refine nl (hK0 _ _ ?_); clear hK0
 refine sr fun K1 hK1 => ?_
 refine goCh Hz (.move rfl .nil) ?_
 clear Hz Az; intro Az Hz
 refine wpList_plain rfl (fun K hK => ?_)
 refine e_call Hz Try.func43 rfl rfl rfl rfl (rread_y _ kd vo bl sz pe to at0 ix place items _ _ _ hc (m2.into [(1, 3)] (by decide) rfl)) ?_
 rintro e w5 ⟨pp5, cp5, pi5, ci5, rfl, hm5⟩
 have mx5 := m2.back hm5 [(21, 1), (22, 2)] (by decide); clear hm5 m2
 have m5 : MemOk _ _ [(21, _), (22, _), (1, _), (2, _), (20, _)] _ := mx5.only [21, 22, 1, 2, 20]; clear mx5
 refine ⟨_, rfl, ?_⟩; clear Hz Az; intro Az Hz
 refine hK _ _ ?_; clear hK
 refine goCh Hz (.move rfl <| .extract rfl rfl <| .extract rfl rfl <| .nil) ?_
 clear Hz Az; intro Az Hz
 refine wpList_plain rfl (fun K hK => ?_)
 refine e_alloc Hz m5 23 fct17 rfl ?_
 clear Hz Az m5; intro g10 Az w11 Hz m11 hB11 hg11
 clear hB11 hg11
 refine hK _ _ ?_; clear hK
 refine wpList_plain rfl (fun K hK => ?_)
 refine e_storeW Hz m11 23 rfl rfl rfl rfl rfl fct3 ?_
 clear m11; intro w12 m12 hB12
 clear hB12
 refine hK _ _ ?_; clear hK
 refine goCh Hz (.assign rfl .nil) ?_
 clear Hz Az; intro Az Hz
 refine nl (hK1 _ _ ?_); clear hK1
 refine wp_seq_k (fun K2 hK2 => ?_)
 replace Hz : Has 97 [(0, _), (4, _), (5, _), (6, _)] Az := Hz.only [0, 4, 5, 6]
 refine regS Hz (.move rfl <| .neq rfl rfl <| .nil) ?_
 clear Hz Az; intro Az Hz
 refine bool_cases Hz (t := 19) rfl ?_ ?_
 · intro hb _; exact absurd hb (by simp)
 clear Hz; intro _ Hz
 refine wp_cond_false (Hz.ev (x := .tmp 19) rfl) ?_
 refine ss (hK2 _ _ ?_); clear hK2
 refine sr fun K3 hK3 => ?_
 refine goCh Hz (.move rfl <| .fa 1 rfl U57 <| .lb m12 23 U3 rfl rfl rfl <| .nil) ?_
 clear Hz Az; intro Az Hz
 refine wpList_plain rfl (fun K hK => ?_)
 refine e_call Hz Try.func33 rfl rfl rfl rfl (rfind_x _ _ L _ _ _ _ hl (m12.into [(1, 1), (2, 2)] (by decide) rfl)) ?_
 rintro e w24 ⟨j, rfl, hj, hm24⟩
 have mx24 := m12.back hm24 [(1, 1), (2, 2)] (by decide); clear hm24 m12
 have m24 : MemOk _ _ [(1, _), (2, _), (20, _), (21, _), (22, _), (23, _)] _ := mx24.only [1, 2, 20, 21, 22, 23]; clear mx24
 refine ⟨_, rfl, ?_⟩; clear Hz Az; intro Az Hz
 refine hK _ _ ?_; clear hK
 obtain ⟨jn, rfl, hjl, hes⟩ : ∃ jn : Nat, j = (jn : Int) ∧ jn < L.length ∧ L[jn]? = some x := by
   rcases hj with ⟨-, h⟩ | ⟨k, e, rfl, h1, h2⟩
   · exact absurd hxv (h 0 x (by rw [hL]; rfl))
   have h3 := (List.getElem?_eq_some_iff.1 h1).1
   rw [hL] at h3; simp at h3; subst h3; exact ⟨0, rfl, by rw [hL]; simp, by rw [hL]; rfl⟩
 have hj0 : jn = 0 := by rw [hL] at hjl; simp at hjl; exact hjl
 refine goCh Hz (.assign rfl .nil) ?_
 clear Hz Az; intro Az Hz
 refine nl (hK3 _ _ ?_); clear hK3
 replace Hz : Has 97 [(0, _), (4, _), (5, _), (7, _)] Az := Hz.only [0, 4, 5, 7]
 refine sr fun K4 hK4 => ?_
 refine goCh Hz (.move rfl <| .nilCheck rfl <| .fa 0 rfl U45 <| .lb m24 1 U43 rfl rfl rfl <| .nil) ?_
 clear Hz Az; intro Az Hz
 have m36 := m24.nilR 24 49 11
 clear m24
 refine wpList_plain rfl (fun K hK => ?_)
 refine e_appR Hz m36 24 rfl rfl rfl (m36.rd (i := 2) rfl) U43 fct27 rfl rfl (by decide) (by simp; omega) rfl ?_
 clear Hz Az m36; intro p37 c37 Az w38 Hz m38
 refine hK _ _ ?_; clear hK
 refine goCh Hz (.assign rfl .nil) ?_
 clear Hz Az; intro Az Hz
 refine nl (hK4 _ _ ?_); clear hK4
 refine wp_seq_k (fun K5 hK5 => ?_)
 refine regS Hz (.fa 0 rfl U57 <| .lb m38 23 U3 rfl rfl rfl <| .eql rfl rfl <| .nil) ?_
 clear Hz Az; intro Az Hz
 refine bool_cases Hz (t := 32) rfl ?_ ?_
 · intro hb _; exact absurd hb (by simpa using hk1)
 clear Hz; intro _ Hz
 refine wp_cond_false (Hz.ev (x := .tmp 32) rfl) ?_
 refine ss (hK5 _ _ ?_); clear hK5
 refine wp_seq_k (fun K6 hK6 => ?_)
 replace Hz : Has 97 [(0, _), (4, _), (5, _), (7, _), (8, _)] Az := Hz.only [0, 4, 5, 7, 8]
 refine regS Hz (.move rfl <| .lss rfl rfl <| .nil) ?_
 clear Hz Az; intro Az Hz
 refine bool_cases Hz (t := 77) rfl ?_ ?_
 · intro hb _; exact absurd hb (by first | (simp; done) | (simp; omega))
 clear Hz; intro _ Hz
 refine wp_cond_false (Hz.ev (x := .tmp 77) rfl) ?_
 refine ss (hK6 _ _ ?_); clear hK6
 refine wp_seq_k (fun K7 hK7 => ?_)
 have hC7 : ∀ (a : Act) (w : World), (∃ (y : VolV) (e9 rl rf rn : Int) (B4 B11 B12 c8 d1 d2 d3 : Nat) (p8 p1 p2 p3 : Option Addr), DoY x y kd at0 ix items e9 ∧ Has 97 [(0, .pointer (some ⟨B, 0, none⟩)), (4, .pointer (some ⟨B4, 0, none⟩)), (7, .int .i64 jn), (8, .slice p8 ([] ++ (L.map volD)).length c8), (11, .pointer (some ⟨B11, 0, none⟩)), (12, .pointer (some ⟨B12, 0, none⟩))] a ∧ MemOk X w0 [(1, .box B 45 [.slice p (L.map volD).length c]), (2, .dat (.slice p (L.map volD).length c) (.l 11 (L.map volD))), (4, .box B4 59 [.int .i64 0, .int .i64 0, .int .i64 0, .int .i64 0, .slice none 0 0]), (8, .row (.slice p8 ([] ++ (L.map volD)).length c8) 49 11 ([] ++ (L.map volD))), (11, .box B11 49 [.int .i64 y.vo, .int .i64 y.bl, .int .i64 y.sz, .int .i64 y.pe, .slice p1 y.place.length d1, .int .i64 y.to, .int .i64 y.ne, .bool y.hi, .int .i64 y.fl, .slice p2 y.pins.length d2, .slice p3 (y.ws.map wrD).length d3]), (12, .box B12 59 [.int .i64 e9, .int .i64 rl, .int .i64 rf, .int .i64 rn, .slice none 0 0]), (13, .dat (.slice p1 y.place.length d1) (.ns .i64 y.place)), (14, .dat (.slice p2 y.pins.length d2) (.ns .i64 y.pins)), (15, .dat (.slice p3 (y.ws.map wrD).length d3) (.l 2 (y.ws.map wrD)))] w) → K7 a w := by
   clear Hz m38
   rintro Az w48 ⟨y, e9, rl, rf, rn, B4, B11, B12, c8, d1, d2, d3, p8, p1, p2, p3, hy, Hz, m48⟩
   refine hK7 _ _ ?_; clear hK7
   refine sr fun K8 hK8 => ?_
   refine goCh Hz (.move rfl <| .move rfl <| .loadBR m48 (i := 11) rfl rfl U49 rfl fct2 (by simp) (by dsimp only [List.drop, List.take] <;> rfl) <| .nil) ?_
   clear Hz Az; intro Az Hz
   obtain ⟨gr56, cr56, hp56, _⟩ := m48.openC (i := 8) rfl (Nat.lt_of_le_of_lt (Nat.zero_le jn) (by simpa using hjl)); cases hp56
   refine goCh Hz (.c rfl (fun _ h => y_idx h rfl rfl U43 fct2 (jn) rfl (by simpa using hjl)) .nil) ?_
   clear Hz Az; intro Az Hz
   refine wpList_plain rfl (fun K hK => ?_)
   refine e_storeRW Hz m48 8 rfl (jn) (by simpa using hjl) rfl rfl rfl rfl rfl fct2 (.cons (.v _) (.cons (.v _) (.cons (.v _) (.cons (.v _) (.cons (m48.rd (i := 13) rfl) (.cons (.v _) (.cons (.v _) (.cons (.v _) (.cons (.v _) (.cons (m48.rd (i := 14) rfl) (.cons (m48.rd (i := 15) rfl) .nil))))))))))) ?_
   clear m48; intro w58 m58
   refine hK _ _ ?_; clear hK
   refine nl (hK8 _ _ ?_); clear hK8
   replace Hz : Has 97 [(0, _), (4, _), (8, _), (12, _)] Az := Hz.only [0, 4, 8, 12]
   refine sr fun K9 hK9 => ?_
   refine goCh Hz (.move rfl <| .move rfl <| .nilCheck rfl <| .fa 0 rfl U45 <| .nil) ?_
   clear Hz Az; intro Az Hz
   refine wpList_plain rfl (fun K hK => ?_)
   refine e_store1 Hz m58 1 rfl rfl rfl rfl rfl fct28 (by dsimp only [List.set] <;> rfl) ?_
   clear m58; intro w68 m68 hB68
   clear hB68
   refine hK _ _ ?_; clear hK
   refine nl (hK9 _ _ ?_); clear hK9
   replace Hz : Has 97 [(4, _), (12, _)] Az := Hz.only [4, 12]
   refine sr fun K10 hK10 => ?_
   refine goCh Hz (.loadBR m68 (i := 12) rfl rfl U59 rfl fct4 (by simp) (by dsimp only [List.drop, List.take] <;> rfl) .nil) ?_
   clear Hz Az; intro Az Hz
   refine wpList_plain rfl (fun K hK => ?_)
   refine e_storeW Hz m68 4 rfl rfl rfl rfl rfl fct4 ?_
   clear m68; intro w72 m72 hB72
   clear hB72
   refine hK _ _ ?_; clear hK
   refine nl (hK10 _ _ ?_); clear hK10
   refine wp_ret ?_
   try dsimp only [Exit.then, Exit.inBlock]
   refine (retC (fn := Try.f19) Hz m72 (i := 4) rfl rfl rfl U59 rfl fct4 ?_)
   have m73 := m72.freezeR 8 rfl; clear m72
   have hrw : ([] ++ (L.map volD)).set jn [.v (.int .i64 y.vo), .v (.int .i64 y.bl), .v (.int .i64 y.sz), .v (.int .i64 y.pe), .ns .i64 y.place, .v (.int .i64 y.to), .v (.int .i64 y.ne), .v (.bool y.hi), .v (.int .i64 y.fl), .ns .i64 y.pins, .l 2 (y.ws.map wrD)] = [y].map volD := by rw [hj0, hL]; rfl
   have hln : ([] ++ (L.map volD)).length = ([y].map volD).length := by rw [hL]; simp
   rw [hrw, hln] at m73
   exact ⟨y, _, _, _, _, _, _, rfl, hy, m73.ren [(1, 1), (2, 8)] (by decide)⟩
 obtain ⟨gr75, cr75, hp75, m75⟩ := m38.openC (i := 24) rfl (Nat.lt_of_le_of_lt (Nat.zero_le _) (by simpa using hjl))
 cases hp75; clear m38
 obtain ⟨vs76, hc76, hR76⟩ := m75.eltC (i := 24) rfl (jn) (r := [.v (.int .i64 x.vo), .v (.int .i64 x.bl), .v (.int .i64 x.sz), .v (.int .i64 x.pe), .ns .i64 x.place, .v (.int .i64 x.to), .v (.int .i64 x.ne), .v (.bool x.hi), .v (.int .i64 x.fl), .ns .i64 x.pins, .l 2 (x.ws.map wrD)]) (by simpa using volD_get hes)
 rcases hR76 with _ | ⟨hd76_0, _ | ⟨hd76_1, _ | ⟨hd76_2, _ | ⟨hd76_3, _ | ⟨hd76_4, _ | ⟨hd76_5, _ | ⟨hd76_6, _ | ⟨hd76_7, _ | ⟨hd76_8, _ | ⟨hd76_9, _ | ⟨hd76_10, _ | _⟩⟩⟩⟩⟩⟩⟩⟩⟩⟩⟩
 obtain rfl := hd76_0.v_out
 clear hd76_0
 obtain rfl := hd76_1.v_out
 clear hd76_1
 obtain rfl := hd76_2.v_out
 clear hd76_2
 obtain rfl := hd76_3.v_out
 clear hd76_3
 obtain ⟨p77, c77, hv77, hw77⟩ := hd76_4.ns_shape; subst hv77
 have m77 := m75.dat 25 rfl (hd76_4.cast (fun _ h => h)); clear m75 hd76_4
 obtain rfl := hd76_5.v_out
 clear hd76_5
 obtain rfl := hd76_6.v_out
 clear hd76_6
 obtain rfl := hd76_7.v_out
 clear hd76_7
 obtain rfl := hd76_8.v_out
 clear hd76_8
 obtain ⟨p78, c78, hv78, hw78⟩ := hd76_9.ns_shape; subst hv78
 have m78 := m77.dat 26 rfl (hd76_9.cast (fun _ h => (free_add rfl h))); clear m77 hd76_9
 obtain ⟨p79, c79, hv79, hw79⟩ := hd76_10.l_shape; subst hv79
 have m79 := m78.dat 27 rfl (hd76_10.cast (fun _ h => (free_add rfl (free_add rfl h)))); clear m78 hd76_10
 have m80 : MemOk _ _ [(1, _), (2, _), (20, _), (21, _), (22, _), (23, _), (24, _), (25, _), (26, _), (27, _)] _ := m79.only [1, 2, 20, 21, 22, 23, 24, 25, 26, 27]; clear m79
 refine region_p 5 (B := [(1, _), (2, _), (20, _), (21, _), (22, _), (23, _), (24, _), (25, _), (26, _), (27, _)]) (m80.to ⟨il, il, il, il, il, il, il, il, il, il, trivial⟩) m80 (by kernel_rfl) (fun w81 hP81 m81 => ?_); clear m80
 refine goR hP81 [0, 1, 2, 3, 4] [3, 4] 5 0 31 Hz (m81.to ⟨il, il, il, il, il, il, il, il, il, il, trivial⟩) (.move rfl <| .move rfl <| .p (fun _ _ h => y_idx h rfl rfl U43 fct2 (jn) rfl (by simpa using hjl)) <| .c (fun _ hW _ h => y_loadRC h hW (i := 24) rfl (jn) hc76 rfl U49 rfl fct2) <| .loadBR hh (i := 23) rfl rfl U57 rfl fct3 (by simp) (by dsimp only [List.drop, List.take] <;> rfl) <| .nil) ?_
 clear Hz Az; intro Az Hz
 refine d_three 5 9 10 rfl rfl rfl (by kernel_rfl) rfl rfl rfl (fun K hK => ?_) (fun K hK => ?_) (fun K hK => ?_)
 ·
  refine e_call Hz Try.func44 rfl rfl rfl rfl (rDoY _ x n hxS hn items _ _ _ _ _ _ _ _ _ _ _ _ _ _ _ _ _ _ _ _ hk4 hk5 (by have := hc.il; omega) (fun e he => itok (hc.ib e he).2) (m81.into [(1, 25), (2, 26), (3, 27), (4, 22)] (by decide) rfl)) ?_
  rintro e w87 ⟨y, e9, rl, rf, rn, p187, p287, p387, d187, d287, d387, rfl, hy, hm87⟩
  have mx87 := m81.back hm87 [(28, 1), (29, 2), (30, 3)] (by decide); clear hm87 m81
  have m87 : MemOk _ _ [(28, _), (29, _), (30, _), (1, _), (2, _), (20, _), (21, _), (23, _), (24, _)] _ := mx87.only [28, 29, 30, 1, 2, 20, 21, 23, 24]; clear mx87
  refine ⟨_, rfl, ?_⟩; clear Hz Az; intro Az Hz
  refine hK _ _ (fun h => (Bool.false_ne_true (h.symm.trans (by rfl))).elim) ?_; clear hK K
  refine goB hP81 [6, 7, 8] 3 63 511 Hz (.move rfl <| .extract rfl rfl <| .extract rfl rfl <| .nil) ?_
  clear Hz Az; intro Az Hz
  refine d_two 9 10 rfl rfl (by kernel_rfl) rfl rfl (fun K hK => ?_) (fun K hK => ?_)
  ·
   refine e_alloc Hz m87 31 fct7 rfl ?_
   clear Hz Az m87; intro g92 Az w93 Hz m93 hB93 hg93
   clear hB93 hg93
   refine hK _ _ (fun h => (Bool.false_ne_true (h.symm.trans (by rfl))).elim) ?_; clear hK K
   refine stepE_end 10 rfl (by kernel_rfl) rfl (by rfl) (fun K hK => ?_)
   refine e_alloc Hz m93 32 fct8 rfl ?_
   clear Hz Az m93; intro g94 Az w95 Hz m95 hB95 hg95
   clear hB95 hg95
   refine hK _ _ ?_; clear hK
   refine stepE_end 11 rfl (by kernel_rfl) rfl (by rfl) (fun K hK => ?_)
   refine e_storeW Hz m95 31 rfl rfl rfl rfl rfl fct2 ?_
   clear m95; intro w96 m96 hB96
   clear hB96
   refine hK _ _ ?_; clear hK
   refine stepE_end 12 rfl (by kernel_rfl) rfl (by rfl) (fun K hK => ?_)
   refine e_storeW Hz m96 32 rfl rfl rfl rfl rfl fct4 ?_
   clear m96; intro w97 m97 hB97
   clear hB97
   refine hK _ _ ?_; clear hK
   refine wpAnyE_done (by kernel_rfl) ?_ _
   have m98 := m97.closeC 24 rfl; clear m97
   show K7 _ _
   exact hC7 _ _ ⟨y, _, _, _, _, _, _, _, _, _, _, _, _, _, _, _, hy, Hz.only [0, 4, 7, 8, 11, 12], m98.ren [(1, 1), (2, 2), (4, 20), (8, 24), (11, 31), (12, 32), (13, 28), (14, 29), (15, 30)] (by decide)⟩
  refine e_alloc Hz m87 31 fct8 rfl ?_
  clear Hz Az m87; intro g99 Az w100 Hz m100 hB100 hg100
  clear hB100 hg100
  refine hK _ _ (fun h => (Bool.false_ne_true (h.symm.trans (by rfl))).elim) ?_; clear hK K
  refine stepE_end 9 rfl (by kernel_rfl) rfl (by rfl) (fun K hK => ?_)
  refine e_alloc Hz m100 32 fct7 rfl ?_
  clear Hz Az m100; intro g101 Az w102 Hz m102 hB102 hg102
  clear hB102 hg102
  refine hK _ _ ?_; clear hK
  refine stepE_end 11 rfl (by kernel_rfl) rfl (by rfl) (fun K hK => ?_)
  refine e_storeW Hz m102 32 rfl rfl rfl rfl rfl fct2 ?_
  clear m102; intro w103 m103 hB103
  clear hB103
  refine hK _ _ ?_; clear hK
  refine stepE_end 12 rfl (by kernel_rfl) rfl (by rfl) (fun K hK => ?_)
  refine e_storeW Hz m103 31 rfl rfl rfl rfl rfl fct4 ?_
  clear m103; intro w104 m104 hB104
  clear hB104
  refine hK _ _ ?_; clear hK
  refine wpAnyE_done (by kernel_rfl) ?_ _
  have m105 := m104.closeC 24 rfl; clear m104
  show K7 _ _
  exact hC7 _ _ ⟨y, _, _, _, _, _, _, _, _, _, _, _, _, _, _, _, hy, Hz.only [0, 4, 7, 8, 11, 12], m105.ren [(1, 1), (2, 2), (4, 20), (8, 24), (11, 32), (12, 31), (13, 28), (14, 29), (15, 30)] (by decide)⟩
 ·
  refine e_alloc Hz m81 28 fct7 rfl ?_
  clear Hz Az m81; intro g106 Az w107 Hz m107 hB107 hg107
  clear hB107 hg107
  refine hK _ _ (fun _ => (m107.to ⟨il, il, il, il, il, il, il, il, il, il, trivial⟩)) ?_; clear hK K
  refine d_two 5 10 rfl rfl (by kernel_rfl) rfl rfl (fun K hK => ?_) (fun K hK => ?_)
  ·
   refine e_call Hz Try.func44 rfl rfl rfl rfl (rDoY _ x n hxS hn items _ _ _ _ _ _ _ _ _ _ _ _ _ _ _ _ _ _ _ _ hk4 hk5 (by have := hc.il; omega) (fun e he => itok (hc.ib e he).2) (m107.into [(1, 25), (2, 26), (3, 27), (4, 22)] (by decide) rfl)) ?_
   rintro e w108 ⟨y, e9, rl, rf, rn, p1108, p2108, p3108, d1108, d2108, d3108, rfl, hy, hm108⟩
   have mx108 := m107.back hm108 [(29, 1), (30, 2), (31, 3)] (by decide); clear hm108 m107
   have m108 : MemOk _ _ [(29, _), (30, _), (31, _), (1, _), (2, _), (20, _), (21, _), (23, _), (24, _), (28, _)] _ := mx108.only [29, 30, 31, 1, 2, 20, 21, 23, 24, 28]; clear mx108
   refine ⟨_, rfl, ?_⟩; clear Hz Az; intro Az Hz
   refine hK _ _ (fun h => (Bool.false_ne_true (h.symm.trans (by rfl))).elim) ?_; clear hK K
   refine goB hP81 [6, 7, 8] 3 575 1023 Hz (.move rfl <| .extract rfl rfl <| .extract rfl rfl <| .nil) ?_
   clear Hz Az; intro Az Hz
   refine stepE_end 10 rfl (by kernel_rfl) rfl (by rfl) (fun K hK => ?_)
   refine e_alloc Hz m108 32 fct8 rfl ?_
   clear Hz Az m108; intro g113 Az w114 Hz m114 hB114 hg114
   clear hB114 hg114
   refine hK _ _ ?_; clear hK
   refine stepE_end 11 rfl (by kernel_rfl) rfl (by rfl) (fun K hK => ?_)
   refine e_storeW Hz m114 28 rfl rfl rfl rfl rfl fct2 ?_
   clear m114; intro w115 m115 hB115
   clear hB115
   refine hK _ _ ?_; clear hK
   refine stepE_end 12 rfl (by kernel_rfl) rfl (by rfl) (fun K hK => ?_)
   refine e_storeW Hz m115 32 rfl rfl rfl rfl rfl fct4 ?_
   clear m115; intro w116 m116 hB116
   clear hB116
   refine hK _ _ ?_; clear hK
   refine wpAnyE_done (by kernel_rfl) ?_ _
   have m117 := m116.closeC 24 rfl; clear m116
   show K7 _ _
   exact hC7 _ _ ⟨y, _, _, _, _, _, _, _, _, _, _, _, _, _, _, _, hy, Hz.only [0, 4, 7, 8, 11, 12], m117.ren [(1, 1), (2, 2), (4, 20), (8, 24), (11, 28), (12, 32), (13, 29), (14, 30), (15, 31)] (by decide)⟩
  refine e_alloc Hz m107 29 fct8 rfl ?_
  clear Hz Az m107; intro g118 Az w119 Hz m119 hB119 hg119
  clear hB119 hg119
  refine hK _ _ (fun _ => (m119.to ⟨il, il, il, il, il, il, il, il, il, il, trivial⟩)) ?_; clear hK K
  refine stepE_end 5 rfl (by kernel_rfl) rfl (by rfl) (fun K hK => ?_)
  refine e_call Hz Try.func44 rfl rfl rfl rfl (rDoY _ x n hxS hn items _ _ _ _ _ _ _ _ _ _ _ _ _ _ _ _ _ _ _ _ hk4 hk5 (by have := hc.il; omega) (fun e he => itok (hc.ib e he).2) (m119.into [(1, 25), (2, 26), (3, 27), (4, 22)] (by decide) rfl)) ?_
  rintro e w120 ⟨y, e9, rl, rf, rn, p1120, p2120, p3120, d1120, d2120, d3120, rfl, hy, hm120⟩
  have mx120 := m119.back hm120 [(30, 1), (31, 2), (32, 3)] (by decide); clear hm120 m119
  have m120 : MemOk _ _ [(30, _), (31, _), (32, _), (1, _), (2, _), (20, _), (21, _), (23, _), (24, _), (28, _), (29, _)] _ := mx120.only [30, 31, 32, 1, 2, 20, 21, 23, 24, 28, 29]; clear mx120
  refine ⟨_, rfl, ?_⟩; clear Hz Az; intro Az Hz
  refine hK _ _ ?_; clear hK
  refine goB hP81 [6, 7, 8] 3 1599 2047 Hz (.move rfl <| .extract rfl rfl <| .extract rfl rfl <| .nil) ?_
  clear Hz Az; intro Az Hz
  refine stepE_end 11 rfl (by kernel_rfl) rfl (by rfl) (fun K hK => ?_)
  refine e_storeW Hz m120 28 rfl rfl rfl rfl rfl fct2 ?_
  clear m120; intro w125 m125 hB125
  clear hB125
  refine hK _ _ ?_; clear hK
  refine stepE_end 12 rfl (by kernel_rfl) rfl (by rfl) (fun K hK => ?_)
  refine e_storeW Hz m125 29 rfl rfl rfl rfl rfl fct4 ?_
  clear m125; intro w126 m126 hB126
  clear hB126
  refine hK _ _ ?_; clear hK
  refine wpAnyE_done (by kernel_rfl) ?_ _
  have m127 := m126.closeC 24 rfl; clear m126
  show K7 _ _
  exact hC7 _ _ ⟨y, _, _, _, _, _, _, _, _, _, _, _, _, _, _, _, hy, Hz.only [0, 4, 7, 8, 11, 12], m127.ren [(1, 1), (2, 2), (4, 20), (8, 24), (11, 28), (12, 29), (13, 30), (14, 31), (15, 32)] (by decide)⟩
 refine e_alloc Hz m81 28 fct8 rfl ?_
 clear Hz Az m81; intro g128 Az w129 Hz m129 hB129 hg129
 clear hB129 hg129
 refine hK _ _ (fun _ => (m129.to ⟨il, il, il, il, il, il, il, il, il, il, trivial⟩)) ?_; clear hK K
 refine d_two 5 9 rfl rfl (by kernel_rfl) rfl rfl (fun K hK => ?_) (fun K hK => ?_)
 ·
  refine e_call Hz Try.func44 rfl rfl rfl rfl (rDoY _ x n hxS hn items _ _ _ _ _ _ _ _ _ _ _ _ _ _ _ _ _ _ _ _ hk4 hk5 (by have := hc.il; omega) (fun e he => itok (hc.ib e he).2) (m129.into [(1, 25), (2, 26), (3, 27), (4, 22)] (by decide) rfl)) ?_
  rintro e w130 ⟨y, e9, rl, rf, rn, p1130, p2130, p3130, d1130, d2130, d3130, rfl, hy, hm130⟩
  have mx130 := m129.back hm130 [(29, 1), (30, 2), (31, 3)] (by decide); clear hm130 m129
  have m130 : MemOk _ _ [(29, _), (30, _), (31, _), (1, _), (2, _), (20, _), (21, _), (23, _), (24, _), (28, _)] _ := mx130.only [29, 30, 31, 1, 2, 20, 21, 23, 24, 28]; clear mx130
  refine ⟨_, rfl, ?_⟩; clear Hz Az; intro Az Hz
  refine hK _ _ (fun h => (Bool.false_ne_true (h.symm.trans (by rfl))).elim) ?_; clear hK K
  refine goB hP81 [6, 7, 8] 3 1087 1535 Hz (.move rfl <| .extract rfl rfl <| .extract rfl rfl <| .nil) ?_
  clear Hz Az; intro Az Hz
  refine stepE_end 9 rfl (by kernel_rfl) rfl (by rfl) (fun K hK => ?_)
  refine e_alloc Hz m130 32 fct7 rfl ?_
  clear Hz Az m130; intro g135 Az w136 Hz m136 hB136 hg136
  clear hB136 hg136
  refine hK _ _ ?_; clear hK
  refine stepE_end 11 rfl (by kernel_rfl) rfl (by rfl) (fun K hK => ?_)
  refine e_storeW Hz m136 32 rfl rfl rfl rfl rfl fct2 ?_
  clear m136; intro w137 m137 hB137
  clear hB137
  refine hK _ _ ?_; clear hK
  refine stepE_end 12 rfl (by kernel_rfl) rfl (by rfl) (fun K hK => ?_)
  refine e_storeW Hz m137 28 rfl rfl rfl rfl rfl fct4 ?_
  clear m137; intro w138 m138 hB138
  clear hB138
  refine hK _ _ ?_; clear hK
  refine wpAnyE_done (by kernel_rfl) ?_ _
  have m139 := m138.closeC 24 rfl; clear m138
  show K7 _ _
  exact hC7 _ _ ⟨y, _, _, _, _, _, _, _, _, _, _, _, _, _, _, _, hy, Hz.only [0, 4, 7, 8, 11, 12], m139.ren [(1, 1), (2, 2), (4, 20), (8, 24), (11, 32), (12, 28), (13, 29), (14, 30), (15, 31)] (by decide)⟩
 refine e_alloc Hz m129 29 fct7 rfl ?_
 clear Hz Az m129; intro g140 Az w141 Hz m141 hB141 hg141
 clear hB141 hg141
 refine hK _ _ (fun _ => (m141.to ⟨il, il, il, il, il, il, il, il, il, il, trivial⟩)) ?_; clear hK K
 refine stepE_end 5 rfl (by kernel_rfl) rfl (by rfl) (fun K hK => ?_)
 refine e_call Hz Try.func44 rfl rfl rfl rfl (rDoY _ x n hxS hn items _ _ _ _ _ _ _ _ _ _ _ _ _ _ _ _ _ _ _ _ hk4 hk5 (by have := hc.il; omega) (fun e he => itok (hc.ib e he).2) (m141.into [(1, 25), (2, 26), (3, 27), (4, 22)] (by decide) rfl)) ?_
 rintro e w142 ⟨y, e9, rl, rf, rn, p1142, p2142, p3142, d1142, d2142, d3142, rfl, hy, hm142⟩
 have mx142 := m141.back hm142 [(30, 1), (31, 2), (32, 3)] (by decide); clear hm142 m141
 have m142 : MemOk _ _ [(30, _), (31, _), (32, _), (1, _), (2, _), (20, _), (21, _), (23, _), (24, _), (28, _), (29, _)] _ := mx142.only [30, 31, 32, 1, 2, 20, 21, 23, 24, 28, 29]; clear mx142
 refine ⟨_, rfl, ?_⟩; clear Hz Az; intro Az Hz
 refine hK _ _ ?_; clear hK
 refine goB hP81 [6, 7, 8] 3 1599 2047 Hz (.move rfl <| .extract rfl rfl <| .extract rfl rfl <| .nil) ?_
 clear Hz Az; intro Az Hz
 refine stepE_end 11 rfl (by kernel_rfl) rfl (by rfl) (fun K hK => ?_)
 refine e_storeW Hz m142 29 rfl rfl rfl rfl rfl fct2 ?_
 clear m142; intro w147 m147 hB147
 clear hB147
 refine hK _ _ ?_; clear hK
 refine stepE_end 12 rfl (by kernel_rfl) rfl (by rfl) (fun K hK => ?_)
 refine e_storeW Hz m147 28 rfl rfl rfl rfl rfl fct4 ?_
 clear m147; intro w148 m148 hB148
 clear hB148
 refine hK _ _ ?_; clear hK
 refine wpAnyE_done (by kernel_rfl) ?_ _
 have m149 := m148.closeC 24 rfl; clear m148
 show K7 _ _
 exact hC7 _ _ ⟨y, _, _, _, _, _, _, _, _, _, _, _, _, _, _, _, hy, Hz.only [0, 4, 7, 8, 11, 12], m149.ren [(1, 1), (2, 2), (4, 20), (8, 24), (11, 29), (12, 28), (13, 30), (14, 31), (15, 32)] (by decide)⟩
end Go.Proofs.Ytkdnhndjjfjppaa.K
