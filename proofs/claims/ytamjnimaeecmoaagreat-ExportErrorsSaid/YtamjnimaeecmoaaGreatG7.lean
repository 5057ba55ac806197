/- General laws of walks: Int5b. -/
import Derived.Test.YtamjnimaeecmoaaGreatG6
section
namespace Go.Proofs.YtamjnimaeecmoaaGreat.K
open Go.ChangeShapes Go.WideShapes Go.ChangeAt Go.RowKit
set_option linter.unusedVariables false
set_option linter.unusedSimpArgs false
theorem fl84xan : flatS Tryz.prog 84 [.int .i64 0, .int .i64 0, .int .i64 0, .int .i64 0, .slice none 0 0] = true := by kernel_rfl
theorem rread_y (X : Cx) (kd vo bl sz pe to at0 ix : Int) (place : List Int) (items : List (Int × List Int)) (p : Option Addr) (c : Nat) (w0 : World) (hc : CmdOk kd vo bl sz pe to at0 ix place items) (m0 : MemOk X w0 [(1, .dat (.slice p (cmdE kd vo bl sz pe to at0 ix place items).length c) (.ns .u8 (cmdE kd vo bl sz pe to at0 ix place items)))] w0) :
   Calls Tryz.prog 62 #[.slice p (cmdE kd vo bl sz pe to at0 ix place items).length c] w0 fun e w' => ∃ (pp : Option Addr) (cp : Nat) (pi : Option Addr) (ci : Nat), e = .returned (.tuple #[.agg #[.int .i64 kd, .int .i64 vo, .int .i64 bl, .int .i64 sz, .int .i64 pe, .slice pp place.length cp, .int .i64 to, .int .i64 at0, .int .i64 ix, .slice pi items.length ci], .int .i64 0]) ∧ MemOk X w0 [(1, .dat (.slice pp place.length cp) (.ns .i64 place)), (2, .dat (.slice pi items.length ci) (.l 2 (items.map itD)))] w' := by
 refine (rreadCmd_x X kd vo bl sz pe to at0 ix place items p c w0 hc m0).mono ?_
 rintro e w' ⟨pp, cp, pi, ci, rfl, m⟩
 rw [List.length_map] at m
 exact ⟨pp, cp, pi, ci, rfl, m⟩
def DoY (x y : VolV) (kd at0 ix : Int) (its : List (Int × List Int)) (e9 : Int) : Prop := y.vo = x.vo ∧ y.bl = x.bl ∧ y.sz = x.sz ∧ y.pe = x.pe ∧ y.place = x.place ∧ y.to = x.to ∧ y.pins = x.pins ∧ doR x.bl x.sz x.to x.ne x.fl x.hi x.pins x.ws kd at0 ix its = (y.ne, y.hi, y.fl, y.ws, e9)
set_option maxRecDepth 100000
set_option maxHeartbeats 4000000
theorem rapply_new (X : Cx) (B : Nat) (L : List VolV) (p : Option Addr) (c : Nat) (vo bl sz pe to at0 ix : Int) (place : List Int) (items : List (Int × List Int)) (pb : Option Addr) (cb : Nat) (w0 : World) (hL : L = []) (hN : NewOk vo bl sz pe to place) (hc : CmdOk 1 vo bl sz pe to at0 ix place items) (m0 : MemOk X w0 [(1, .box B 75 [.slice p (L.map volD).length c]), (2, .dat (.slice p (L.map volD).length c) (.l 11 (L.map volD))), (3, .dat (.slice pb (cmdE 1 vo bl sz pe to at0 ix place items).length cb) (.ns .u8 (cmdE 1 vo bl sz pe to at0 ix place items)))] w0) :
   Calls Tryz.prog 31 #[.pointer (some ⟨B, 0, none⟩), .slice pb (cmdE 1 vo bl sz pe to at0 ix place items).length cb] w0 fun e w' => ∃ (p' : Option Addr) (c' : Nat), e = .returned (.agg #[.int .i64 0, .int .i64 0, .int .i64 0, .int .i64 0, .slice none 0 0]) ∧ MemOk X w0 [(1, .box B 75 [.slice p' ([newV vo bl sz pe to place].map volD).length c']), (2, .dat (.slice p' ([newV vo bl sz pe to place].map volD).length c') (.l 11 ([newV vo bl sz pe to place].map volD)))] w' := by
 refine ent2 Tryz.func31 rfl Tryz.ntmps31 fun Az Hz => ?_
 have hl : L.length ≤ 1000000 := by rw [hL]; simp
 have hlm : (L.map volD).length ≤ 1000000 := by simpa using hl
 have hpl := hc.pl
 refine zsr fun K0 hK0 => ?_
 refine plz (e_alloc Hz m0 20 fct8 rfl fun g1 Az w2 Hz m2 _ _ => ?_)
 refine znl (hK0 _ _ ?_)
 refine zsr fun K1 hK1 => ?_
 refine goCh Hz (.move rfl .nil) fun Az Hz => ?_
 refine plz (ecl Hz Tryz.func62 rfl (rread_y _ 1 vo bl sz pe to at0 ix place items _ _ _ hc (m2.into [(1, 3)] (by decide) rfl)) ?_)
 rintro e w5 ⟨pp5, cp5, pi5, ci5, rfl, hm5⟩
 have mx5 := m2.back hm5 [(21, 1), (22, 2)] (by decide); clear hm5 m2
 have m5 := mx5.oz [21, 22, 1, 2, 20]
 refine ⟨_, rfl, ?_⟩; intro Az Hz
 refine goCh Hz (.move rfl <| .extract rfl rfl <| .extract rfl rfl .nil) fun Az Hz => ?_
 refine plz (e_alloc Hz m5 23 fct7 rfl fun g10 Az w11 Hz m11 _ _ => ?_)
 refine plz (stw Hz m11 23 fct5 fun w12 m12 _ => ?_)
 refine gz hK1 Hz (.assign rfl .nil) fun Az Hz => ?_
 refine wsk fun K2 hK2 => ?_
 replace Hz := Hz.oz [0, 4, 5, 6]
 refine regS Hz (.move rfl <| .neq rfl rfl .nil) fun Az Hz => ?_
 refine bc Hz 19 ?_ ?_
 · intro hb _; exact absurd hb (by simp)
 clear Hz; intro _ Hz
 refine wcf Hz ?_
 refine zss (hK2 _ _ ?_)
 refine zsr fun K3 hK3 => ?_
 refine goCh Hz (.move rfl <| .fa 1 rfl U81 <| .lb m12 23 U3 rfl rfl rfl .nil) fun Az Hz => ?_
 refine plz (ecl Hz Tryz.func56 rfl (rfind_x _ _ L _ _ _ _ hl (m12.into [(1, 1), (2, 2)] (by decide) rfl)) ?_)
 rintro e w24 ⟨j, rfl, hj, hm24⟩
 have mx24 := m12.back hm24 [(1, 1), (2, 2)] (by decide); clear hm24 m12
 have m24 := mx24.oz [1, 2, 20, 21, 22, 23]
 refine ⟨_, rfl, ?_⟩; intro Az Hz
 obtain rfl : j = -1 := by
   rcases hj with ⟨h, -⟩ | ⟨k, e, rfl, h1, h2⟩
   · exact h
   rw [hL] at h1; simp at h1
 refine gz hK3 Hz (.assign rfl .nil) fun Az Hz => ?_
 replace Hz := Hz.oz [0, 4, 5, 7]
 refine zsr fun K4 hK4 => ?_
 refine goCh Hz (.move rfl <| .nilCheck rfl <| .fa 0 rfl U75 <| .lb m24 1 U73 rfl rfl rfl .nil) fun Az Hz => ?_
 have m36 := m24.nilR 24 33 11
 refine plz (e_appR Hz m36 24 rfl rfl rfl (m36.rd (i := 2) rfl) U73 fct3 rfl rfl (by decide) (by simp; omega) rfl fun p37 c37 Az w38 Hz m38 => ?_)
 refine gz hK4 Hz (.assign rfl .nil) fun Az Hz => ?_
 refine wsk fun K5 hK5 => ?_
 refine regS Hz (.fa 0 rfl U81 <| .lb m38 23 U3 rfl rfl rfl <| .eql rfl rfl .nil) fun Az Hz => ?_
 refine bc Hz 32 ?_ ?_
 rotate_left
 · intro hb _; exact absurd hb (by simp)
 clear Hz; intro _ Hz
 refine wct Hz ?_
 refine wsk fun K6 hK6 => ?_
 replace Hz := Hz.oz [0, 4, 5, 7, 8]
 refine zsr fun K7 hK7 => ?_
 have m46 := m38.freezeR 24 rfl
 refine gz hK7 Hz (.move rfl <| .geq rfl rfl <| .nil) fun Az Hz => ?_
 refine bc Hz 34 ?_ ?_
 · intro hb _; exact absurd hb (by simp)
 clear Hz; intro _ Hz
 refine wcf Hz ?_
 refine zss (hK6 _ _ ?_)
 refine zsr fun K8 hK8 => ?_
 refine goCh Hz (.loadBR m46 (i := 23) rfl rfl U81 rfl fct5 (by simp) (by dsimp only [List.drop, List.take] <;> rfl) .nil) fun Az Hz => ?_
 refine plz (ecl Hz Tryz.func32 rfl (rnew_yes _ vo bl sz pe to _ _ place _ _ _ _ _ _ ((m46.rd (i := 21) rfl).any) (by omega) hN) ?_)
 rintro e w52 ⟨p52, c52, rfl, hd52, hb52⟩
 have m53 := m46.callF 25 rfl hb52 hd52
 refine ⟨_, rfl, ?_⟩; intro Az Hz
 refine goCh Hz (.move rfl <| .extract rfl rfl <| .extract rfl rfl .nil) fun Az Hz => ?_
 refine plz (e_alloc Hz m53 26 fct2 rfl fun g58 Az w59 Hz m59 _ _ => ?_)
 refine plz (stw Hz m59 26 fct1 fun w60 m60 _ => ?_)
 refine gz hK8 Hz (.assign rfl .nil) fun Az Hz => ?_
 refine wsk fun K9 hK9 => ?_
 replace Hz := Hz.oz [0, 4, 5, 7, 8, 9, 10]
 refine regS Hz (.move rfl <| .neq rfl rfl .nil) fun Az Hz => ?_
 refine bc Hz 42 ?_ ?_
 · intro hb _; exact absurd hb (by simp)
 clear Hz; intro _ Hz
 refine wcf Hz ?_
 refine zss (hK9 _ _ ?_)
 refine regS Hz (.assign rfl .nil) fun Az Hz => ?_
 refine wsk fun K10 hK10 => ?_
 refine wp_block ?_
 refine wp_loop_ghost (fun g a w => ∃ (k B4 B5 B9 c8 c9 n1 d1 n2 d2 : Nat) (p8 p9 q1 q2 : Option Addr), k ≤ (L.map volD).length ∧ g = (L.map volD).length - k ∧ Has 97 [(0, .pointer (some ⟨B, 0, none⟩)), (4, .pointer (some ⟨B4, 0, none⟩)), (5, .pointer (some ⟨B5, 0, none⟩)), (7, .int .i64 k), (8, .slice p8 (L.map volD).length c8), (9, .pointer (some ⟨B9, 0, none⟩))] a ∧ MemOk X w0 [(1, .box B 75 [.slice p (L.map volD).length c]), (2, .dat (.slice p (L.map volD).length c) (.l 11 (L.map volD))), (4, .box B4 84 [.int .i64 0, .int .i64 0, .int .i64 0, .int .i64 0, .slice none 0 0]), (5, .box B5 81 [.int .i64 1, .int .i64 vo, .int .i64 bl, .int .i64 sz, .int .i64 pe, .slice q1 n1 d1, .int .i64 to, .int .i64 at0, .int .i64 ix, .slice q2 n2 d2]), (9, .box B9 33 [.int .i64 vo, .int .i64 bl, .int .i64 sz, .int .i64 pe, .slice p9 place.length c9, .int .i64 to, .int .i64 0, .bool (decide (0 < to)), .int .i64 0, .slice none 0 0, .slice none 0 0]), (8, .dat (.slice p8 (L.map volD).length c8) (.l 11 (L.map volD))), (10, .dat (.slice p9 place.length c9) (.ns .i64 place))] w) ((L.map volD).length) ?_ ?_
 · exact ⟨0, _, _, _, _, _, _, _, _, _, _, _, _, _, Nat.zero_le _, rfl, Hz.only [0, 4, 5, 7, 8, 9], m60.ren [(1, 1), (2, 2), (4, 20), (5, 23), (9, 26), (8, 24), (10, 25)] (by decide)⟩
 clear Hz m60
 rintro g Az w67 ⟨k, B4, B5, B9, c8, c9, n1, d1, n2, d2, p8, p9, q1, q2, hkl, hg, Hz, m67⟩
 refine wsk fun K11 hK11 => ?_
 refine wsk fun K12 hK12 => ?_
 have m68 := m67.oz [1, 2, 4, 5, 8, 9, 10]
 refine region_p 14 (B := [(1, _), (2, _), (4, _), (5, _), (8, _), (9, _), (10, _)]) (m68.to ⟨il, il, il, il, il, il, il, trivial⟩) m68 (by kernel_rfl) (fun w69 hP69 m69 => ?_); clear m68
 refine goA hP69 [0, 1, 2, 3, 4] 5 0 31 Hz (m69.to ⟨il, il, il, il, il, il, il, trivial⟩) (.move rfl <| .move rfl <| .len rfl U73 <| .lss rfl rfl <| .move rfl .nil) fun Az Hz => ?_
 refine bc Hz 49 ?_ ?_
 · intro hb _; exact absurd hb (by simp [hL])
 clear Hz; intro _ Hz
 refine goA hP69 [5, 6, 7, 8, 9, 10, 11, 12, 13] 9 31 16383 Hz (m69.to ⟨il, il, il, il, il, il, il, trivial⟩) (.s <| .s <| .s <| .s <| .s <| .s <| .s <| .s <| .pickF rfl rfl .nil) fun Az Hz => ?_
 refine wpAnyE_done (by kernel_rfl) ?_ _
 refine hK12 _ _ ?_
 refine wcf Hz ?_
 refine wp_exit ?_
 refine hK10 _ _ ?_
 refine wsk fun K13 hK13 => ?_
 replace Hz := Hz.oz [0, 4, 5, 7, 8, 9]
 have m86 := m69.oz [1, 2, 4, 5, 8, 9, 10]
 refine region_p 14 (B := [(1, _), (2, _), (4, _), (5, _), (8, _), (9, _), (10, _)]) (m86.to ⟨il, il, il, il, il, il, il, trivial⟩) m86 (by kernel_rfl) (fun w87 hP87 m87 => ?_); clear m86
 refine goA hP87 [0, 1, 2] 3 0 7 Hz (m87.to ⟨il, il, il, il, il, il, il, trivial⟩) (.move rfl <| .move rfl <| .move rfl .nil) fun Az Hz => ?_
 have hcap92 := Rd.capL (m87.rd (i := 8) rfl)
 have m91 := m87.takeR (i := 8) rfl k hkl 100 rfl
 refine goR hP87 [3, 5, 8, 9] [5] 4 7 815 Hz (m91.to ⟨il, il, il, il, il, il, il, trivial⟩) (.p (fun _ _ h_ => y_sliceHn h_ k rfl rfl U73 fct1 rfl (Nat.le_trans hkl hcap92)) <| .loadBR hh (i := 9) rfl rfl U33 rfl fct1 (by simp) (by dsimp only [List.drop, List.take] <;> rfl) <| .move rfl <| .move rfl .nil) fun Az Hz => ?_
 have m97 := m91.dropR (i := 8) rfl k hkl 101 rfl
 refine goA hP87 [10] 1 815 1839 Hz (m97.to ⟨il, il, il, il, il, il, il, trivial⟩) (.p (fun _ _ h_ => y_sliceLn h_ k rfl rfl U73 fct1 rfl hkl) .nil) fun Az Hz => ?_
 refine d_two 4 6 rfl rfl (by kernel_rfl) rfl rfl (fun K hK => ?_) (fun K hK => ?_)
 ·
  have m99 := m97.nilR 102 33 11
  refine e_appR Hz m99 102 rfl rfl rfl (m99.rd (i := 100) rfl) U73 fct3 rfl rfl (by decide) (by simp; omega) rfl ?_
  intro p100 c100 Az w101 Hz m101
  refine hK _ _ (fun _ => (m101.to ⟨il, il, il, il, il, il, il, trivial⟩)) ?_; clear hK K
  refine so 6 ?_
  refine e_litR Hz m101 103 (mm := 11) rfl (.cons rfl rfl (.cons (.v _) (.cons (.v _) (.cons (.v _) (.cons (.v _) (.cons (m101.rd (i := 10) rfl) (.cons (.v _) (.cons (.v _) (.cons (.v _) (.cons (.v _) (.cons (Rd.nilN _ _ .i64 _) (.cons (.l0 _ _ 2) .nil))))))))))) .nil) U73 fct3 rfl rfl rfl rfl rfl fun g102 Az w103 Hz m103 => ?_
  refine ⟨m103.to ⟨il, il, il, il, il, il, il, trivial⟩, ?_⟩
  have m105 := m103.freezeR 103 rfl
  refine so 7 ?_
  refine e_appR Hz m105 102 rfl rfl rfl (m105.rd (i := 103) rfl) U73 fct3 rfl rfl (by decide) (by simp; omega) rfl fun p104 c104 Az w106 Hz m106 => ?_
  refine ⟨m106.to ⟨il, il, il, il, il, il, il, trivial⟩, ?_⟩
  refine so 11 ?_
  refine e_appR Hz m106 102 rfl rfl rfl (m106.rd (i := 101) rfl) U73 fct3 rfl rfl (by decide) (by simp; omega) rfl fun p107 c107 Az w108 Hz m108 => ?_
  refine ⟨m108.to ⟨il, il, il, il, il, il, il, trivial⟩, ?_⟩
  refine goA hP87 [12, 13] 2 4095 16383 Hz (m108.to ⟨il, il, il, il, il, il, il, trivial⟩) (.nilCheck rfl <| .fa 0 rfl U75 .nil) fun Az Hz => ?_
  refine se 14 ?_
  refine st1 Hz m108 1 fct4 fun w111 m111 _ => ?_
  refine wpAnyE_done (by kernel_rfl) ?_ _
  refine hK13 _ _ ?_
  replace Hz := Hz.oz [0, 4, 5, 7, 8, 9]
  refine zsr fun K14 hK14 => ?_
  refine goCh Hz (.build rfl fct8 fl84xan rfl (by dsimp only [setL, List.set] <;> rfl) .nil) fun Az Hz => ?_
  refine plz (stw Hz m111 4 fct6 fun w115 m115 _ => ?_)
  refine znl (hK14 _ _ ?_)
  refine rtd (retC (fn := Tryz.f31) Hz m115 (i := 4) rfl rfl rfl U84 rfl fct6 ?_)
  have m116 := m115.freezeR 102 rfl
  have hrw : [] ++ List.take k (L.map volD) ++ [[.v (.int .i64 (newV vo bl sz pe to place).vo), .v (.int .i64 (newV vo bl sz pe to place).bl), .v (.int .i64 (newV vo bl sz pe to place).sz), .v (.int .i64 (newV vo bl sz pe to place).pe), .ns .i64 (newV vo bl sz pe to place).place, .v (.int .i64 (newV vo bl sz pe to place).to), .v (.int .i64 (newV vo bl sz pe to place).ne), .v (.bool (newV vo bl sz pe to place).hi), .v (.int .i64 (newV vo bl sz pe to place).fl), .ns .i64 (newV vo bl sz pe to place).pins, .l 2 ((newV vo bl sz pe to place).ws.map wrD)]] ++ List.drop k (L.map volD) = [newV vo bl sz pe to place].map volD := by rw [hL]; simp [volD, newV]
  simp only [newV] at hrw
  erw [hrw] at m116
  exact ⟨_, _, rfl, m116.ren [(1, 1), (2, 102)] (by decide)⟩
 refine e_litR Hz m97 102 (mm := 11) rfl (.cons rfl rfl (.cons (.v _) (.cons (.v _) (.cons (.v _) (.cons (.v _) (.cons (m97.rd (i := 10) rfl) (.cons (.v _) (.cons (.v _) (.cons (.v _) (.cons (.v _) (.cons (Rd.nilN _ _ .i64 _) (.cons (.l0 _ _ 2) .nil))))))))))) .nil) U73 fct3 rfl rfl rfl rfl rfl ?_
 intro g117 Az w118 Hz m118
 refine hK _ _ (fun _ => (m118.to ⟨il, il, il, il, il, il, il, trivial⟩)) ?_; clear hK K
 have m119 := m118.nilR 103 33 11
 refine so 4 ?_
 refine e_appR Hz m119 103 rfl rfl rfl (m119.rd (i := 100) rfl) U73 fct3 rfl rfl (by decide) (by simp; omega) rfl fun p120 c120 Az w121 Hz m121 => ?_
 refine ⟨m121.to ⟨il, il, il, il, il, il, il, trivial⟩, ?_⟩
 have m123 := m121.freezeR 102 rfl
 refine so 7 ?_
 refine e_appR Hz m123 103 rfl rfl rfl (m123.rd (i := 102) rfl) U73 fct3 rfl rfl (by decide) (by simp; omega) rfl fun p122 c122 Az w124 Hz m124 => ?_
 refine ⟨m124.to ⟨il, il, il, il, il, il, il, trivial⟩, ?_⟩
 refine so 11 ?_
 refine e_appR Hz m124 103 rfl rfl rfl (m124.rd (i := 101) rfl) U73 fct3 rfl rfl (by decide) (by simp; omega) rfl fun p125 c125 Az w126 Hz m126 => ?_
 refine ⟨m126.to ⟨il, il, il, il, il, il, il, trivial⟩, ?_⟩
 refine goA hP87 [12, 13] 2 4095 16383 Hz (m126.to ⟨il, il, il, il, il, il, il, trivial⟩) (.nilCheck rfl <| .fa 0 rfl U75 .nil) fun Az Hz => ?_
 refine se 14 ?_
 refine st1 Hz m126 1 fct4 fun w129 m129 _ => ?_
 refine wpAnyE_done (by kernel_rfl) ?_ _
 refine hK13 _ _ ?_
 replace Hz := Hz.oz [0, 4, 5, 7, 8, 9]
 refine zsr fun K15 hK15 => ?_
 refine goCh Hz (.build rfl fct8 fl84xan rfl (by dsimp only [setL, List.set] <;> rfl) .nil) fun Az Hz => ?_
 refine plz (stw Hz m129 4 fct6 fun w133 m133 _ => ?_)
 refine znl (hK15 _ _ ?_)
 refine rtd (retC (fn := Tryz.f31) Hz m133 (i := 4) rfl rfl rfl U84 rfl fct6 ?_)
 have m134 := m133.freezeR 103 rfl
 have hrw : [] ++ List.take k (L.map volD) ++ [[.v (.int .i64 (newV vo bl sz pe to place).vo), .v (.int .i64 (newV vo bl sz pe to place).bl), .v (.int .i64 (newV vo bl sz pe to place).sz), .v (.int .i64 (newV vo bl sz pe to place).pe), .ns .i64 (newV vo bl sz pe to place).place, .v (.int .i64 (newV vo bl sz pe to place).to), .v (.int .i64 (newV vo bl sz pe to place).ne), .v (.bool (newV vo bl sz pe to place).hi), .v (.int .i64 (newV vo bl sz pe to place).fl), .ns .i64 (newV vo bl sz pe to place).pins, .l 2 ((newV vo bl sz pe to place).ws.map wrD)]] ++ List.drop k (L.map volD) = [newV vo bl sz pe to place].map volD := by rw [hL]; simp [volD, newV]
 simp only [newV] at hrw
 erw [hrw] at m134
 exact ⟨_, _, rfl, m134.ren [(1, 1), (2, 103)] (by decide)⟩
end Go.Proofs.YtamjnimaeecmoaaGreat.K
end
