/- msg: take of a message's own bytes. -/
import Derived.Test.YtmoghepeggohhaaDoorMsg4
namespace Go.Proofs.YtmoghepeggohhaaDoor.K
open Go.ChangeShapes Go.WideShapes Go.ChangeAt Go.RowKit
set_option linter.unusedVariables false
set_option linter.unusedSimpArgs false

theorem ps30mta : placesS Tryd.prog 30 = some [(0, 1), (1, 1), (2, 1), (3, 1), (4, 1), (5, 1), (6, 1), (7, 1), (8, 1), (9, 1), (10, 4), (14, 1), (15, 1), (16, 1), (17, 1), (18, 1)] := by kernel_rfl
theorem sz2mta : (Tryd.prog.info? 2).map (·.size) = some 1 := by kernel_rfl
theorem sz3mta : (Tryd.prog.info? 3).map (·.size) = some 1 := by kernel_rfl
theorem sz4mta : (Tryd.prog.info? 4).map (·.size) = some 1 := by kernel_rfl
theorem sz26mta : (Tryd.prog.info? 26).map (·.size) = some 1 := by kernel_rfl
theorem sz28mta : (Tryd.prog.info? 28).map (·.size) = some 4 := by kernel_rfl
theorem sz30mta : (Tryd.prog.info? 30).map (·.size) = some 19 := by kernel_rfl
theorem zc28mta : ((Tryd.prog.info? 28).bind (·.zero)).map (·.cells.toList) = some [.int .i64 0, .int .i64 0, .slice none 0 0, .slice none 0 0] := by kernel_rfl
theorem zc30mta : ((Tryd.prog.info? 30).bind (·.zero)).map (·.cells.toList) = some [.int .i64 0, .int .i64 0, .int .i64 0, .int .i64 0, .int .i64 0, .int .i64 0, .int .i64 0, .int .i64 0, .bool false, .slice none 0 0, .int .i64 0, .int .i64 0, .slice none 0 0, .slice none 0 0, .slice none 0 0, .int .i64 0, .int .i64 0, .int .i64 0, .int .i64 0] := by kernel_rfl

set_option maxRecDepth 100000
set_option maxHeartbeats 4000000
theorem mtake_ok (X : Cx) (B : Nat) (m : MV) (hO : MsgOk m) (b0 b1 b2 b3 b4 b5 b6 b7 b8 b9 b10 b11 b12 b13 b14 b15 b16 : List Int) (p : Option Addr) (c : Nat) (w0 : World) (hl0 : b0.length ≤ 1000000) (hy0 : BytesL b0) (hdl : m.da.length ≤ 65535) (h0 : b0 = enc m.k ++ b1) (h1 : b1 = enc m.g ++ b2) (h2 : b2 = enc m.f ++ b3) (h3 : b3 = enc m.t ++ b4) (h4 : b4 = enc m.n.te ++ b5) (h5 : b5 = enc m.n.ix ++ b6) (h6 : b6 = enc m.n.lt ++ b7) (h7 : b7 = enc m.n.co ++ b8) (h8 : b8 = enc (bitI m.n.ok) ++ b9) (h9 : b9 = enc 0 ++ b10) (h10 : b10 = enc (bitI (decide (m.k = 7))) ++ b11) (h11 : b11 = baseM m ++ b12) (h12 : b12 = enc (m.da.length : Int) ++ (m.da ++ b13)) (h13 : b13 = enc m.n.vo ++ b14) (h14 : b14 = enc m.n.ch ++ b15) (h15 : b15 = enc m.n.ma ++ b16) (h16 : b16 = enc m.n.fl ++ []) (m0 : MemOk X w0 [(1, .box B 85 [.slice p (b0).length c, .int .i64 0]), (2, .dat (.slice p (b0).length c) (.ns .u8 (b0)))] w0) :
   Calls Tryd.prog 17 #[.pointer (some ⟨B, 0, none⟩)] w0 fun e w' => ∃ (q2 q3 q4 : Option Addr) (e2 e3 e4 : Nat), e = .returned (.tuple #[.agg #[.int .i64 m.k, .int .i64 m.g, .int .i64 m.f, .int .i64 m.t, .int .i64 m.n.te, .int .i64 m.n.ix, .int .i64 m.n.lt, .int .i64 m.n.co, .bool m.n.ok, .slice none 0 0, .int .i64 m.bi, .int .i64 m.bt, .slice q2 m.cf.length e2, .slice q3 m.bd.length e3, .slice q4 m.da.length e4, .int .i64 m.n.vo, .int .i64 m.n.ch, .int .i64 m.n.ma, .int .i64 m.n.fl], .bool true]) ∧ MemOk X w0 [(3, .dat (.slice q2 m.cf.length e2) (.ns .i64 m.cf)), (4, .dat (.slice q3 m.bd.length e3) (.ns .u8 m.bd)), (5, .dat (.slice q4 m.da.length e4) (.ns .u8 m.da))] w' := by
 have hl1 : b1.length ≤ 1000000 := by rw [h0, List.length_append] at hl0; omega
 have hy1 : BytesL b1 := bytes_r (h0 ▸ hy0)
 have hl2 : b2.length ≤ 1000000 := by rw [h1, List.length_append] at hl1; omega
 have hy2 : BytesL b2 := bytes_r (h1 ▸ hy1)
 have hl3 : b3.length ≤ 1000000 := by rw [h2, List.length_append] at hl2; omega
 have hy3 : BytesL b3 := bytes_r (h2 ▸ hy2)
 have hl4 : b4.length ≤ 1000000 := by rw [h3, List.length_append] at hl3; omega
 have hy4 : BytesL b4 := bytes_r (h3 ▸ hy3)
 have hl5 : b5.length ≤ 1000000 := by rw [h4, List.length_append] at hl4; omega
 have hy5 : BytesL b5 := bytes_r (h4 ▸ hy4)
 have hl6 : b6.length ≤ 1000000 := by rw [h5, List.length_append] at hl5; omega
 have hy6 : BytesL b6 := bytes_r (h5 ▸ hy5)
 have hl7 : b7.length ≤ 1000000 := by rw [h6, List.length_append] at hl6; omega
 have hy7 : BytesL b7 := bytes_r (h6 ▸ hy6)
 have hl8 : b8.length ≤ 1000000 := by rw [h7, List.length_append] at hl7; omega
 have hy8 : BytesL b8 := bytes_r (h7 ▸ hy7)
 have hl9 : b9.length ≤ 1000000 := by rw [h8, List.length_append] at hl8; omega
 have hy9 : BytesL b9 := bytes_r (h8 ▸ hy8)
 have hl10 : b10.length ≤ 1000000 := by rw [h9, List.length_append] at hl9; omega
 have hy10 : BytesL b10 := bytes_r (h9 ▸ hy9)
 have hl11 : b11.length ≤ 1000000 := by rw [h10, List.length_append] at hl10; omega
 have hy11 : BytesL b11 := bytes_r (h10 ▸ hy10)
 have hl12 : b12.length ≤ 1000000 := by rw [h11, List.length_append] at hl11; omega
 have hy12 : BytesL b12 := bytes_r (h11 ▸ hy11)
 have hl13 : b13.length ≤ 1000000 := by rw [h12, List.length_append, List.length_append] at hl12; omega
 have hy13 : BytesL b13 := bytes_r (bytes_r (h12 ▸ hy12))
 have hl14 : b14.length ≤ 1000000 := by rw [h13, List.length_append] at hl13; omega
 have hy14 : BytesL b14 := bytes_r (h13 ▸ hy13)
 have hl15 : b15.length ≤ 1000000 := by rw [h14, List.length_append] at hl14; omega
 have hy15 : BytesL b15 := bytes_r (h14 ▸ hy14)
 have hl16 : b16.length ≤ 1000000 := by rw [h15, List.length_append] at hl15; omega
 have hy16 : BytesL b16 := bytes_r (h15 ▸ hy15)
 have := hO.k0; have := hO.k1; have := hO.te; have := hO.ix; have := hO.lt; have := hO.co; have := hO.ma; have := hO.fl; have := hO.vo; have := hO.ch; have := hO.g; have := hO.f; have := hO.t; have := bitI_out m.n.ok; have := bitI_out (decide (m.k = 7))
 have hok : decide (bitI m.n.ok = 1) = m.n.ok := by cases m.n.ok <;> rfl
 refine enter (fn := Tryd.f17) Tryd.func17 rfl Tryd.ntmps17 rfl (fun Az Hz => ?_)
 simp only [List.zipIdx_cons, List.zipIdx_nil, List.map_cons, List.map_nil, Nat.reduceAdd, Nat.zero_add] at Hz
 refine wp_seq_k (fun K0 hK0 => ?_)
 refine wp_region_lit ?_
 refine wpList_plain rfl (fun K hK => ?_)
 refine e_box Hz m0 20 rfl rfl rfl ?_
 clear Hz Az m0; intro g1 Az w2 Hz m2 hB2 hg2
 clear hB2 hg2
 refine hK _ _ ?_; clear hK K
 refine wpList_plain rfl (fun K hK => ?_)
 refine e_alloc Hz m2 21 zc30mta rfl ?_
 clear Hz Az m2; intro g3 Az w4 Hz m4 hB4 hg4
 clear hB4 hg4
 refine hK _ _ ?_; clear hK K
 refine goCh Hz (.assign rfl .nil) ?_
 clear Hz Az; intro Az Hz
 refine wpList_nil ?_
 refine hK0 _ _ ?_; clear hK0; try clear K0
 refine regS Hz (.makeFunc rfl <| .assign rfl <| .nil) ?_
 clear Hz Az; intro Az Hz
 refine regS Hz (.makeFunc rfl <| .assign rfl <| .nil) ?_
 clear Hz Az; intro Az Hz
 refine wp_seq_k (fun K1 hK1 => ?_)
 refine wp_region_lit ?_
 refine goCh Hz (.move rfl .nil) ?_
 clear Hz Az; intro Az Hz
 refine wpList_plain rfl (fun K hK => ?_)
 refine e_callC Hz rfl Tryd.func34 rfl rfl rfl rfl (num_c _ _ _ _ 10 _ _ _ m.k b1 hl0 hy0 h0 (by omega) (by omega) (m4.into [(1, 1), (2, 2), (3, 20)] (by decide) rfl)) ?_
 rintro e w12 ⟨p12, c12, rfl, hm12⟩
 have mx12 := m4.back hm12 [(1, 1), (2, 2), (20, 3)] (by decide); clear hm12 m4
 have m12 : MemOk _ _ [(1, _), (2, _), (20, _), (21, _)] _ := mx12.only [1, 2, 20, 21]; clear mx12
 refine ⟨_, rfl, ?_⟩; clear Hz Az; intro Az Hz
 refine hK _ _ ?_; clear hK K
 refine goCh Hz (.move rfl .nil) ?_
 clear Hz Az; intro Az Hz
 refine wpList_plain rfl (fun K hK => ?_)
 refine e_callC Hz rfl Tryd.func34 rfl rfl rfl rfl (num_c _ _ _ _ 8 _ _ _ m.g b2 hl1 hy1 h1 (by omega) (by omega) (m12.into [(1, 1), (2, 2), (3, 20)] (by decide) rfl)) ?_
 rintro e w15 ⟨p15, c15, rfl, hm15⟩
 have mx15 := m12.back hm15 [(1, 1), (2, 2), (20, 3)] (by decide); clear hm15 m12
 have m15 : MemOk _ _ [(1, _), (2, _), (20, _), (21, _)] _ := mx15.only [1, 2, 20, 21]; clear mx15
 refine ⟨_, rfl, ?_⟩; clear Hz Az; intro Az Hz
 refine hK _ _ ?_; clear hK K
 refine goCh Hz (.move rfl .nil) ?_
 clear Hz Az; intro Az Hz
 refine wpList_plain rfl (fun K hK => ?_)
 refine e_callC Hz rfl Tryd.func34 rfl rfl rfl rfl (num_c _ _ _ _ 7 _ _ _ m.f b3 hl2 hy2 h2 (by omega) (by omega) (m15.into [(1, 1), (2, 2), (3, 20)] (by decide) rfl)) ?_
 rintro e w18 ⟨p18, c18, rfl, hm18⟩
 have mx18 := m15.back hm18 [(1, 1), (2, 2), (20, 3)] (by decide); clear hm18 m15
 have m18 : MemOk _ _ [(1, _), (2, _), (20, _), (21, _)] _ := mx18.only [1, 2, 20, 21]; clear mx18
 refine ⟨_, rfl, ?_⟩; clear Hz Az; intro Az Hz
 refine hK _ _ ?_; clear hK K
 refine goCh Hz (.move rfl .nil) ?_
 clear Hz Az; intro Az Hz
 refine wpList_plain rfl (fun K hK => ?_)
 refine e_callC Hz rfl Tryd.func34 rfl rfl rfl rfl (num_c _ _ _ _ 7 _ _ _ m.t b4 hl3 hy3 h3 (by omega) (by omega) (m18.into [(1, 1), (2, 2), (3, 20)] (by decide) rfl)) ?_
 rintro e w21 ⟨p21, c21, rfl, hm21⟩
 have mx21 := m18.back hm21 [(1, 1), (2, 2), (20, 3)] (by decide); clear hm21 m18
 have m21 : MemOk _ _ [(1, _), (2, _), (20, _), (21, _)] _ := mx21.only [1, 2, 20, 21]; clear mx21
 refine ⟨_, rfl, ?_⟩; clear Hz Az; intro Az Hz
 refine hK _ _ ?_; clear hK K
 refine goCh Hz (.buildG rfl zc30mta ps30mta rfl .nil) ?_
 clear Hz Az; intro Az Hz
 refine wpList_plain rfl (fun K hK => ?_)
 refine e_alloc Hz m21 22 zc30mta rfl ?_
 clear Hz Az m21; intro g24 Az w25 Hz m25 hB25 hg25
 clear hB25 hg25
 refine hK _ _ ?_; clear hK K
 refine wpList_plain rfl (fun K hK => ?_)
 refine e_storeW Hz m25 22 rfl rfl rfl rfl rfl sz30mta ?_
 clear m25; intro w26 m26 hB26
 clear hB26
 refine hK _ _ ?_; clear hK K
 refine wpList_nil ?_
 refine hK1 _ _ ?_; clear hK1; try clear K1
 replace Hz : Has 94 [(1, _), (2, _), (3, _), (4, _), (5, _), (6, _)] Az := Hz.only [1, 2, 3, 4, 5, 6]
 refine wp_seq_k (fun K2 hK2 => ?_)
 refine wp_region_lit ?_
 refine goCh Hz (.move rfl .nil) ?_
 clear Hz Az; intro Az Hz
 refine wpList_plain rfl (fun K hK => ?_)
 refine e_callC Hz rfl Tryd.func36 rfl rfl rfl rfl (time_c _ _ _ _ _ _ _ m.n.te b5 hl4 hy4 h4 (by omega) (m26.into [(1, 1), (2, 2), (3, 20)] (by decide) rfl)) ?_
 rintro e w30 ⟨p30, c30, rfl, hm30⟩
 have mx30 := m26.back hm30 [(1, 1), (2, 2), (20, 3)] (by decide); clear hm30 m26
 have m30 : MemOk _ _ [(1, _), (2, _), (20, _), (21, _), (22, _)] _ := mx30.only [1, 2, 20, 21, 22]; clear mx30
 refine ⟨_, rfl, ?_⟩; clear Hz Az; intro Az Hz
 refine hK _ _ ?_; clear hK K
 refine goCh Hz (.move rfl .nil) ?_
 clear Hz Az; intro Az Hz
 refine wpList_plain rfl (fun K hK => ?_)
 refine e_callC Hz rfl Tryd.func36 rfl rfl rfl rfl (time_c _ _ _ _ _ _ _ m.n.ix b6 hl5 hy5 h5 (by omega) (m30.into [(1, 1), (2, 2), (3, 20)] (by decide) rfl)) ?_
 rintro e w33 ⟨p33, c33, rfl, hm33⟩
 have mx33 := m30.back hm33 [(1, 1), (2, 2), (20, 3)] (by decide); clear hm33 m30
 have m33 : MemOk _ _ [(1, _), (2, _), (20, _), (21, _), (22, _)] _ := mx33.only [1, 2, 20, 21, 22]; clear mx33
 refine ⟨_, rfl, ?_⟩; clear Hz Az; intro Az Hz
 refine hK _ _ ?_; clear hK K
 refine goCh Hz (.move rfl .nil) ?_
 clear Hz Az; intro Az Hz
 refine wpList_plain rfl (fun K hK => ?_)
 refine e_callC Hz rfl Tryd.func36 rfl rfl rfl rfl (time_c _ _ _ _ _ _ _ m.n.lt b7 hl6 hy6 h6 (by omega) (m33.into [(1, 1), (2, 2), (3, 20)] (by decide) rfl)) ?_
 rintro e w36 ⟨p36, c36, rfl, hm36⟩
 have mx36 := m33.back hm36 [(1, 1), (2, 2), (20, 3)] (by decide); clear hm36 m33
 have m36 : MemOk _ _ [(1, _), (2, _), (20, _), (21, _), (22, _)] _ := mx36.only [1, 2, 20, 21, 22]; clear mx36
 refine ⟨_, rfl, ?_⟩; clear Hz Az; intro Az Hz
 refine hK _ _ ?_; clear hK K
 refine goCh Hz (.move rfl .nil) ?_
 clear Hz Az; intro Az Hz
 refine wpList_plain rfl (fun K hK => ?_)
 refine e_callC Hz rfl Tryd.func36 rfl rfl rfl rfl (time_c _ _ _ _ _ _ _ m.n.co b8 hl7 hy7 h7 (by omega) (m36.into [(1, 1), (2, 2), (3, 20)] (by decide) rfl)) ?_
 rintro e w39 ⟨p39, c39, rfl, hm39⟩
 have mx39 := m36.back hm39 [(1, 1), (2, 2), (20, 3)] (by decide); clear hm39 m36
 have m39 : MemOk _ _ [(1, _), (2, _), (20, _), (21, _), (22, _)] _ := mx39.only [1, 2, 20, 21, 22]; clear mx39
 refine ⟨_, rfl, ?_⟩; clear Hz Az; intro Az Hz
 refine hK _ _ ?_; clear hK K
 refine goCh Hz (.fieldAddr (off := 4) rfl Tryd.underlying30 rfl (s := 0) (by kernel_rfl) rfl .nil) ?_
 clear Hz Az; intro Az Hz
 refine wpList_plain rfl (fun K hK => ?_)
 refine e_store1 Hz m39 22 rfl rfl rfl rfl rfl sz3mta (by dsimp only [List.set] <;> rfl) ?_
 clear m39; intro w42 m42 hB42
 clear hB42
 refine hK _ _ ?_; clear hK K
 refine goCh Hz (.fieldAddr (off := 5) rfl Tryd.underlying30 rfl (s := 0) (by kernel_rfl) rfl .nil) ?_
 clear Hz Az; intro Az Hz
 refine wpList_plain rfl (fun K hK => ?_)
 refine e_store1 Hz m42 22 rfl rfl rfl rfl rfl sz3mta (by dsimp only [List.set] <;> rfl) ?_
 clear m42; intro w44 m44 hB44
 clear hB44
 refine hK _ _ ?_; clear hK K
 refine goCh Hz (.fieldAddr (off := 6) rfl Tryd.underlying30 rfl (s := 0) (by kernel_rfl) rfl .nil) ?_
 clear Hz Az; intro Az Hz
 refine wpList_plain rfl (fun K hK => ?_)
 refine e_store1 Hz m44 22 rfl rfl rfl rfl rfl sz3mta (by dsimp only [List.set] <;> rfl) ?_
 clear m44; intro w46 m46 hB46
 clear hB46
 refine hK _ _ ?_; clear hK K
 refine goCh Hz (.fieldAddr (off := 7) rfl Tryd.underlying30 rfl (s := 0) (by kernel_rfl) rfl .nil) ?_
 clear Hz Az; intro Az Hz
 refine wpList_plain rfl (fun K hK => ?_)
 refine e_store1 Hz m46 22 rfl rfl rfl rfl rfl sz3mta (by dsimp only [List.set] <;> rfl) ?_
 clear m46; intro w48 m48 hB48
 clear hB48
 refine hK _ _ ?_; clear hK K
 refine wpList_nil ?_
 refine hK2 _ _ ?_; clear hK2; try clear K2
 refine wp_seq_k (fun K3 hK3 => ?_)
 have hC3 : ∀ (a : Act) (w : World), (∃ (gR Br Bm : Nat) (p1 : Option Addr) (c1 : Nat), Has 94 [(1, .pointer (some ⟨gR, 0, none⟩)), (2, .pointer (some ⟨Br, 0, none⟩)), (4, .func (.func 34) #[] #[.pointer (some ⟨gR, 0, none⟩)]), (5, .func (.func 36) #[] #[.pointer (some ⟨gR, 0, none⟩)]), (6, .pointer (some ⟨Bm, 0, none⟩))] a ∧ MemOk X w0 [(1, .box B 85 [.slice p1 (b9).length c1, .int .i64 0]), (2, .dat (.slice p1 (b9).length c1) (.ns .u8 (b9))), (20, .box gR 51 [.pointer (some ⟨B, 0, none⟩)]), (21, .box Br 30 [.int .i64 0, .int .i64 0, .int .i64 0, .int .i64 0, .int .i64 0, .int .i64 0, .int .i64 0, .int .i64 0, .bool false, .slice none 0 0, .int .i64 0, .int .i64 0, .slice none 0 0, .slice none 0 0, .slice none 0 0, .int .i64 0, .int .i64 0, .int .i64 0, .int .i64 0]), (22, .box Bm 30 [.int .i64 m.k, .int .i64 m.g, .int .i64 m.f, .int .i64 m.t, .int .i64 m.n.te, .int .i64 m.n.ix, .int .i64 m.n.lt, .int .i64 m.n.co, .bool m.n.ok, .slice none 0 0, .int .i64 0, .int .i64 0, .slice none 0 0, .slice none 0 0, .slice none 0 0, .int .i64 0, .int .i64 0, .int .i64 0, .int .i64 0])] w) → K3 a w := by
   clear Hz m48
   rintro Az w49 ⟨gR, Br, Bm, p1, c1, Hz, m49⟩
   refine hK3 _ _ ?_; clear hK3; try clear K3
   refine wp_seq_k (fun K4 hK4 => ?_)
   refine wp_seq_k (fun K5 hK5 => ?_)
   refine wp_region_lit ?_
   refine goCh Hz (.loadB1 m49 (i := 20) rfl rfl rfl Tryd.underlying51 rfl .nil) ?_
   clear Hz Az; intro Az Hz
   refine wpList_plain rfl (fun K hK => ?_)
   refine e_call Hz Tryd.func35 rfl rfl rfl rfl (pnum_ok _ _ _ 4 _ _ _ 0 b10 hl9 hy9 h9 (by omega) (by omega) (m49.into [(1, 1), (2, 2)] (by decide) rfl)) ?_
   rintro e w52 ⟨p52, c52, rfl, hm52⟩
   have mx52 := m49.back hm52 [(1, 1), (2, 2)] (by decide); clear hm52 m49
   have m52 : MemOk _ _ [(1, _), (2, _), (20, _), (21, _), (22, _)] _ := mx52.only [1, 2, 20, 21, 22]; clear mx52
   refine ⟨_, rfl, ?_⟩; clear Hz Az; intro Az Hz
   refine hK _ _ ?_; clear hK K
   refine goCh Hz (.move rfl .nil) ?_
   clear Hz Az; intro Az Hz
   refine wpList_nil ?_
   refine hK5 _ _ ?_; clear hK5; try clear K5
   refine wp_block ?_
   refine wp_loop_ghost (fun g a w => g = 0 ∧ ∃ (gR Br Bm : Nat) (p1 : Option Addr) (c1 : Nat), Has 94 [(1, .pointer (some ⟨gR, 0, none⟩)), (2, .pointer (some ⟨Br, 0, none⟩)), (4, .func (.func 34) #[] #[.pointer (some ⟨gR, 0, none⟩)]), (5, .func (.func 36) #[] #[.pointer (some ⟨gR, 0, none⟩)]), (6, .pointer (some ⟨Bm, 0, none⟩)), (39, .int .u64 0), (40, .int .u64 0)] a ∧ MemOk X w0 [(1, .box B 85 [.slice p1 (b10).length c1, .int .i64 0]), (2, .dat (.slice p1 (b10).length c1) (.ns .u8 (b10))), (20, .box gR 51 [.pointer (some ⟨B, 0, none⟩)]), (21, .box Br 30 [.int .i64 0, .int .i64 0, .int .i64 0, .int .i64 0, .int .i64 0, .int .i64 0, .int .i64 0, .int .i64 0, .bool false, .slice none 0 0, .int .i64 0, .int .i64 0, .slice none 0 0, .slice none 0 0, .slice none 0 0, .int .i64 0, .int .i64 0, .int .i64 0, .int .i64 0]), (22, .box Bm 30 [.int .i64 m.k, .int .i64 m.g, .int .i64 m.f, .int .i64 m.t, .int .i64 m.n.te, .int .i64 m.n.ix, .int .i64 m.n.lt, .int .i64 m.n.co, .bool m.n.ok, .slice none 0 0, .int .i64 0, .int .i64 0, .slice none 0 0, .slice none 0 0, .slice none 0 0, .int .i64 0, .int .i64 0, .int .i64 0, .int .i64 0])] w) (0) ?_ ?_
   · exact ⟨rfl, _, _, _, _, _, Hz.only [1, 2, 4, 5, 6, 39, 40], m52.ren [(1, 1), (2, 2), (20, 20), (21, 21), (22, 22)] (by decide)⟩
   ·
    clear Hz m52
    rintro g Az w55 ⟨hg, gR, Br, Bm, p1, c1, Hz, m55⟩
    refine regS Hz (.lss rfl rfl <| .nil) ?_
    clear Hz Az; intro Az Hz
    refine wp_seq_k (fun K6 hK6 => ?_)
    refine bool_cases Hz (t := 41) rfl ?_ ?_
    · intro hb _; exact absurd hb (by simp)
    clear Hz; intro _ Hz
    refine wp_cond_false (Hz.ev (x := .tmp 41) rfl) ?_
    refine wp_exit ?_
    refine hK4 _ _ ?_; clear hK4; try clear K4
    refine wp_seq_k (fun K7 hK7 => ?_)
    have hC7 : ∀ (a : Act) (w : World), (∃ (gR Br Bm : Nat) (p1 : Option Addr) (c1 : Nat) (bi bt : Int) (cf bd : List Int) (pa pb : Option Addr) (ca cb : Nat), bi = m.bi ∧ bt = m.bt ∧ cf = m.cf ∧ bd = m.bd ∧ Has 94 [(1, .pointer (some ⟨gR, 0, none⟩)), (2, .pointer (some ⟨Br, 0, none⟩)), (4, .func (.func 34) #[] #[.pointer (some ⟨gR, 0, none⟩)]), (5, .func (.func 36) #[] #[.pointer (some ⟨gR, 0, none⟩)]), (6, .pointer (some ⟨Bm, 0, none⟩))] a ∧ MemOk X w0 [(1, .box B 85 [.slice p1 (b12).length c1, .int .i64 0]), (2, .dat (.slice p1 (b12).length c1) (.ns .u8 (b12))), (20, .box gR 51 [.pointer (some ⟨B, 0, none⟩)]), (21, .box Br 30 [.int .i64 0, .int .i64 0, .int .i64 0, .int .i64 0, .int .i64 0, .int .i64 0, .int .i64 0, .int .i64 0, .bool false, .slice none 0 0, .int .i64 0, .int .i64 0, .slice none 0 0, .slice none 0 0, .slice none 0 0, .int .i64 0, .int .i64 0, .int .i64 0, .int .i64 0]), (22, .box Bm 30 [.int .i64 m.k, .int .i64 m.g, .int .i64 m.f, .int .i64 m.t, .int .i64 m.n.te, .int .i64 m.n.ix, .int .i64 m.n.lt, .int .i64 m.n.co, .bool m.n.ok, .slice none 0 0, .int .i64 bi, .int .i64 bt, .slice pa cf.length ca, .slice pb bd.length cb, .slice none 0 0, .int .i64 0, .int .i64 0, .int .i64 0, .int .i64 0]), (12, .dat (.slice pa cf.length ca) (.ns .i64 cf)), (13, .dat (.slice pb bd.length cb) (.ns .u8 bd))] w) → K7 a w := by
      clear Hz m55
      rintro Az w58 ⟨gR, Br, Bm, p1, c1, bi, bt, cf, bd, pa, pb, ca, cb, rfl, rfl, rfl, rfl, Hz, m58⟩
      refine hK7 _ _ ?_; clear hK7; try clear K7
      refine wp_seq_k (fun K8 hK8 => ?_)
      refine wp_region_lit ?_
      refine goCh Hz (.loadB1 m58 (i := 20) rfl rfl rfl Tryd.underlying51 rfl .nil) ?_
      clear Hz Az; intro Az Hz
      refine wpList_plain rfl (fun K hK => ?_)
      refine e_call Hz Tryd.func39 rfl rfl rfl rfl (rdlump_ok _ _ _ 65535 _ _ _ m.da b13 hl12 hy12 h12 (by omega) (by omega) (m58.into [(1, 1), (2, 2)] (by decide) rfl)) ?_
      rintro e w61 ⟨p61, c61, p361, c361, rfl, hm61⟩
      have mx61 := m58.back hm61 [(1, 1), (2, 2), (300, 3)] (by decide); clear hm61 m58
      have m61 : MemOk _ _ [(1, _), (2, _), (300, _), (12, _), (13, _), (20, _), (21, _), (22, _)] _ := mx61.only [1, 2, 300, 12, 13, 20, 21, 22]; clear mx61
      refine ⟨_, rfl, ?_⟩; clear Hz Az; intro Az Hz
      refine hK _ _ ?_; clear hK K
      refine goCh Hz (.fieldAddr (off := 14) rfl Tryd.underlying30 rfl (s := 0) (by kernel_rfl) rfl .nil) ?_
      clear Hz Az; intro Az Hz
      refine wpList_plain rfl (fun K hK => ?_)
      refine e_store1 Hz m61 22 rfl rfl rfl rfl rfl sz26mta (by dsimp only [List.set] <;> rfl) ?_
      clear m61; intro w64 m64 hB64
      clear hB64
      refine hK _ _ ?_; clear hK K
      refine wpList_nil ?_
      refine hK8 _ _ ?_; clear hK8; try clear K8
      refine wp_seq_k (fun K9 hK9 => ?_)
      refine wp_region_lit ?_
      refine goCh Hz (.move rfl .nil) ?_
      clear Hz Az; intro Az Hz
      refine wpList_plain rfl (fun K hK => ?_)
      refine e_callC Hz rfl Tryd.func34 rfl rfl rfl rfl (num_c _ _ _ _ 8 _ _ _ m.n.vo b14 hl13 hy13 h13 (by omega) (by omega) (m64.into [(1, 1), (2, 2), (3, 20)] (by decide) rfl)) ?_
      rintro e w67 ⟨p67, c67, rfl, hm67⟩
      have mx67 := m64.back hm67 [(1, 1), (2, 2), (20, 3)] (by decide); clear hm67 m64
      have m67 : MemOk _ _ [(1, _), (2, _), (20, _), (12, _), (13, _), (21, _), (22, _), (300, _)] _ := mx67.only [1, 2, 20, 12, 13, 21, 22, 300]; clear mx67
      refine ⟨_, rfl, ?_⟩; clear Hz Az; intro Az Hz
      refine hK _ _ ?_; clear hK K
      refine goCh Hz (.move rfl .nil) ?_
      clear Hz Az; intro Az Hz
      refine wpList_plain rfl (fun K hK => ?_)
      refine e_callC Hz rfl Tryd.func34 rfl rfl rfl rfl (num_c _ _ _ _ 256 _ _ _ m.n.ch b15 hl14 hy14 h14 (by omega) (by omega) (m67.into [(1, 1), (2, 2), (3, 20)] (by decide) rfl)) ?_
      rintro e w70 ⟨p70, c70, rfl, hm70⟩
      have mx70 := m67.back hm70 [(1, 1), (2, 2), (20, 3)] (by decide); clear hm70 m67
      have m70 : MemOk _ _ [(1, _), (2, _), (20, _), (12, _), (13, _), (21, _), (22, _), (300, _)] _ := mx70.only [1, 2, 20, 12, 13, 21, 22, 300]; clear mx70
      refine ⟨_, rfl, ?_⟩; clear Hz Az; intro Az Hz
      refine hK _ _ ?_; clear hK K
      refine goCh Hz (.fieldAddr (off := 15) rfl Tryd.underlying30 rfl (s := 0) (by kernel_rfl) rfl .nil) ?_
      clear Hz Az; intro Az Hz
      refine wpList_plain rfl (fun K hK => ?_)
      refine e_store1 Hz m70 22 rfl rfl rfl rfl rfl sz3mta (by dsimp only [List.set] <;> rfl) ?_
      clear m70; intro w73 m73 hB73
      clear hB73
      refine hK _ _ ?_; clear hK K
      refine goCh Hz (.fieldAddr (off := 16) rfl Tryd.underlying30 rfl (s := 0) (by kernel_rfl) rfl .nil) ?_
      clear Hz Az; intro Az Hz
      refine wpList_plain rfl (fun K hK => ?_)
      refine e_store1 Hz m73 22 rfl rfl rfl rfl rfl sz3mta (by dsimp only [List.set] <;> rfl) ?_
      clear m73; intro w75 m75 hB75
      clear hB75
      refine hK _ _ ?_; clear hK K
      refine wpList_nil ?_
      refine hK9 _ _ ?_; clear hK9; try clear K9
      replace Hz : Has 94 [(1, _), (2, _), (4, _), (5, _), (6, _)] Az := Hz.only [1, 2, 4, 5, 6]
      refine wp_seq_k (fun K10 hK10 => ?_)
      refine wp_region_lit ?_
      refine goCh Hz (.move rfl .nil) ?_
      clear Hz Az; intro Az Hz
      refine wpList_plain rfl (fun K hK => ?_)
      refine e_callC Hz rfl Tryd.func36 rfl rfl rfl rfl (time_c _ _ _ _ _ _ _ m.n.ma b16 hl15 hy15 h15 (by omega) (m75.into [(1, 1), (2, 2), (3, 20)] (by decide) rfl)) ?_
      rintro e w79 ⟨p79, c79, rfl, hm79⟩
      have mx79 := m75.back hm79 [(1, 1), (2, 2), (20, 3)] (by decide); clear hm79 m75
      have m79 : MemOk _ _ [(1, _), (2, _), (20, _), (12, _), (13, _), (21, _), (22, _), (300, _)] _ := mx79.only [1, 2, 20, 12, 13, 21, 22, 300]; clear mx79
      refine ⟨_, rfl, ?_⟩; clear Hz Az; intro Az Hz
      refine hK _ _ ?_; clear hK K
      refine goCh Hz (.move rfl .nil) ?_
      clear Hz Az; intro Az Hz
      refine wpList_plain rfl (fun K hK => ?_)
      refine e_callC Hz rfl Tryd.func36 rfl rfl rfl rfl (time_c _ _ _ _ _ _ _ m.n.fl [] hl16 hy16 h16 (by omega) (m79.into [(1, 1), (2, 2), (3, 20)] (by decide) rfl)) ?_
      rintro e w82 ⟨p82, c82, rfl, hm82⟩
      have mx82 := m79.back hm82 [(1, 1), (2, 2), (20, 3)] (by decide); clear hm82 m79
      have m82 : MemOk _ _ [(1, _), (2, _), (20, _), (12, _), (13, _), (21, _), (22, _), (300, _)] _ := mx82.only [1, 2, 20, 12, 13, 21, 22, 300]; clear mx82
      refine ⟨_, rfl, ?_⟩; clear Hz Az; intro Az Hz
      refine hK _ _ ?_; clear hK K
      refine goCh Hz (.fieldAddr (off := 17) rfl Tryd.underlying30 rfl (s := 0) (by kernel_rfl) rfl .nil) ?_
      clear Hz Az; intro Az Hz
      refine wpList_plain rfl (fun K hK => ?_)
      refine e_store1 Hz m82 22 rfl rfl rfl rfl rfl sz2mta (by dsimp only [List.set] <;> rfl) ?_
      clear m82; intro w85 m85 hB85
      clear hB85
      refine hK _ _ ?_; clear hK K
      refine goCh Hz (.fieldAddr (off := 18) rfl Tryd.underlying30 rfl (s := 0) (by kernel_rfl) rfl .nil) ?_
      clear Hz Az; intro Az Hz
      refine wpList_plain rfl (fun K hK => ?_)
      refine e_store1 Hz m85 22 rfl rfl rfl rfl rfl sz2mta (by dsimp only [List.set] <;> rfl) ?_
      clear m85; intro w87 m87 hB87
      clear hB87
      refine hK _ _ ?_; clear hK K
      refine wpList_nil ?_
      refine hK10 _ _ ?_; clear hK10; try clear K10
      refine wp_seq_k (fun K11 hK11 => ?_)
      replace Hz : Has 94 [(1, _), (2, _), (4, _), (5, _), (6, _)] Az := Hz.only [1, 2, 4, 5, 6]
      have m89 : MemOk _ _ [(1, _), (2, _), (12, _), (13, _), (20, _), (21, _), (22, _), (300, _)] _ := m87.only [1, 2, 12, 13, 20, 21, 22, 300]; clear m87
      refine region_p 9 (B := [(1, _), (2, _), (12, _), (13, _), (20, _), (21, _), (22, _), (300, _)]) (m89.to ⟨il, il, il, il, il, il, il, il, trivial⟩) m89 (by kernel_rfl) (fun w90 hP90 m90 => ?_); clear m89
      refine goR hP90 [0, 1] [0, 1] 2 0 3 Hz (m90.to ⟨il, il, il, il, il, il, il, il, trivial⟩) (.loadBR hh (i := 22) rfl rfl Tryd.underlying30 rfl sz30mta (by simp) (by dsimp only [List.drop, List.take] <;> rfl) <| .loadB1 hh (i := 20) rfl rfl rfl Tryd.underlying51 rfl <| .nil) ?_
      clear Hz Az; intro Az Hz
      refine stepE_only 2 rfl (by kernel_rfl) rfl (fun K hK => ?_)
      refine e_call Hz Tryd.func40 rfl rfl rfl rfl (perr_x _ _ _ _ _ _ _ (m90.into [(1, 1), (2, 2)] (by decide) rfl)) ?_
      rintro e w93 ⟨rfl, hm93⟩
      have mx93 := m90.back hm93 [(1, 1), (2, 2)] (by decide); clear hm93 m90
      have m93 : MemOk _ _ [(1, _), (2, _), (12, _), (13, _), (20, _), (21, _), (22, _), (300, _)] _ := mx93.only [1, 2, 12, 13, 20, 21, 22, 300]; clear mx93
      refine ⟨_, rfl, ?_⟩; clear Hz Az; intro Az Hz
      refine hK _ _ (m93.to ⟨il, il, il, il, il, il, il, il, trivial⟩) ?_; clear hK K
      refine goA hP90 [3, 4] 2 7 31 Hz (m93.to ⟨il, il, il, il, il, il, il, il, trivial⟩) (.eql rfl rfl <| .move rfl <| .nil) ?_
      clear Hz Az; intro Az Hz
      refine bool_cases Hz (t := 89) rfl ?_ ?_
      rotate_left
      · intro hb _; exact absurd hb (by simp)
      clear Hz; intro _ Hz
      refine goR hP90 [5] [5] 1 31 63 Hz (m93.to ⟨il, il, il, il, il, il, il, il, trivial⟩) (.loadB1 hh (i := 20) rfl rfl rfl Tryd.underlying51 rfl <| .nil) ?_
      clear Hz Az; intro Az Hz
      refine stepE_only 6 rfl (by kernel_rfl) (wantedG Hz rfl rfl rfl rfl) (fun K hK => ?_)
      refine e_call Hz Tryd.func41 rfl rfl rfl rfl (pleft_x _ _ _ _ _ _ _ (m93.into [(1, 1), (2, 2)] (by decide) rfl)) ?_
      rintro e w99 ⟨rfl, hm99⟩
      have mx99 := m93.back hm99 [(1, 1), (2, 2)] (by decide); clear hm99 m93
      have m99 : MemOk _ _ [(1, _), (2, _), (12, _), (13, _), (20, _), (21, _), (22, _), (300, _)] _ := mx99.only [1, 2, 12, 13, 20, 21, 22, 300]; clear mx99
      refine ⟨_, rfl, ?_⟩; clear Hz Az; intro Az Hz
      refine hK _ _ (m99.to ⟨il, il, il, il, il, il, il, il, trivial⟩) ?_; clear hK K
      refine goA hP90 [7, 8] 2 127 511 Hz (m99.to ⟨il, il, il, il, il, il, il, il, trivial⟩) (.eql rfl rfl <| .pickT rfl rfl <| .nil) ?_
      clear Hz Az; intro Az Hz
      refine stepE_end 9 rfl (by kernel_rfl) rfl (by rfl) (fun K hK => ?_)
      refine e_storeW Hz m99 21 rfl rfl rfl rfl rfl sz30mta ?_
      clear m99; intro w103 m103 hB103
      clear hB103
      refine hK _ _ ?_; clear hK K
      refine goB hP90 [10] 1 1023 2047 Hz (.assign rfl <| .nil) ?_
      clear Hz Az; intro Az Hz
      refine wpAnyE_done (by kernel_rfl) ?_ _
      refine hK11 _ _ ?_; clear hK11; try clear K11
      refine wp_ret ?_
      try dsimp only [Exit.then, Exit.inBlock]
      refine (retCT (fn := Tryd.f17) Hz m103 (i := 21) rfl rfl rfl rfl Tryd.underlying30 rfl sz30mta ?_)
      exact ⟨_, _, _, _, _, _, rfl, m103.ren [(3, 12), (4, 13), (5, 300)] (by decide)⟩
    refine wp_seq_k (fun K12 hK12 => ?_)
    refine wp_region_lit ?_
    refine goCh Hz (.loadB1 m55 (i := 20) rfl rfl rfl Tryd.underlying51 rfl .nil) ?_
    clear Hz Az; intro Az Hz
    refine wpList_plain rfl (fun K hK => ?_)
    refine e_call Hz Tryd.func35 rfl rfl rfl rfl (pnum_ok _ _ _ 1 _ _ _ (bitI (decide (m.k = 7))) b11 hl10 hy10 h10 (by omega) (by omega) (m55.into [(1, 1), (2, 2)] (by decide) rfl)) ?_
    rintro e w107 ⟨p107, c107, rfl, hm107⟩
    have mx107 := m55.back hm107 [(1, 1), (2, 2)] (by decide); clear hm107 m55
    have m107 : MemOk _ _ [(1, _), (2, _), (20, _), (21, _), (22, _)] _ := mx107.only [1, 2, 20, 21, 22]; clear mx107
    refine ⟨_, rfl, ?_⟩; clear Hz Az; intro Az Hz
    refine hK _ _ ?_; clear hK K
    refine goCh Hz (.eql rfl rfl .nil) ?_
    clear Hz Az; intro Az Hz
    refine wpList_nil ?_
    refine hK12 _ _ ?_; clear hK12; try clear K12
    refine bool_cases Hz (t := 59) rfl ?_ ?_
    ·
     clear Hz; intro hb110 Hz
     try simp only [Q1x, Q2x, Q3x, Q4x, Q5x, Q6x, Q7x, Q8x, Q9x, Q0x, Qax, Qbx] at hb110
     have hk7 : m.k = 7 := Decidable.byContradiction (fun h8 => by have h9 := hb110; simp [bitI, h8] at h9)
     have hbm : baseM m = baseB m.bi m.bt m.cf m.bd := by unfold baseM baseP; rw [if_pos hk7, if_pos (hO.base7 hk7)]
     refine wp_cond_true (Hz.ev (x := .tmp 59) rfl) ?_
     refine wp_seq_k (fun K13 hK13 => ?_)
     refine wp_region_lit ?_
     refine goCh Hz (.loadB1 m107 (i := 20) rfl rfl rfl Tryd.underlying51 rfl .nil) ?_
     clear Hz Az; intro Az Hz
     refine wpList_plain rfl (fun K hK => ?_)
     refine e_call Hz Tryd.func38 rfl rfl rfl rfl (rdbase_ok _ _ m.bi m.bt m.cf m.bd b11 (enc m.bt ++ (enc (m.cf.length : Int) ++ (encs m.cf ++ (enc (m.bd.length : Int) ++ (m.bd ++ b12))))) (enc (m.cf.length : Int) ++ (encs m.cf ++ (enc (m.bd.length : Int) ++ (m.bd ++ b12)))) (enc (m.bd.length : Int) ++ (m.bd ++ b12)) b12 _ _ _ (hO.base7 hk7) hl11 hy11 (by rw [h11, hbm]; simp [baseB, encs]) rfl rfl rfl (m107.into [(1, 1), (2, 2)] (by decide) rfl)) ?_
     rintro e w113 ⟨p113, c113, pp113, cc113, pr113, cr113, rfl, hm113⟩
     have mx113 := m107.back hm113 [(1, 1), (2, 2), (200, 3), (201, 4)] (by decide); clear hm113 m107
     have m113 : MemOk _ _ [(1, _), (2, _), (200, _), (201, _), (20, _), (21, _), (22, _)] _ := mx113.only [1, 2, 200, 201, 20, 21, 22]; clear mx113
     refine ⟨_, rfl, ?_⟩; clear Hz Az; intro Az Hz
     refine hK _ _ ?_; clear hK K
     refine goCh Hz (.move rfl <| .extract rfl rfl <| .extract rfl rfl <| .nil) ?_
     clear Hz Az; intro Az Hz
     refine wpList_plain rfl (fun K hK => ?_)
     refine e_alloc Hz m113 202 zc28mta rfl ?_
     clear Hz Az m113; intro g118 Az w119 Hz m119 hB119 hg119
     clear hB119 hg119
     refine hK _ _ ?_; clear hK K
     refine wpList_plain rfl (fun K hK => ?_)
     refine e_storeW Hz m119 202 rfl rfl rfl rfl rfl sz28mta ?_
     clear m119; intro w120 m120 hB120
     clear hB120
     refine hK _ _ ?_; clear hK K
     refine goCh Hz (.assign rfl .nil) ?_
     clear Hz Az; intro Az Hz
     refine wpList_nil ?_
     refine hK13 _ _ ?_; clear hK13; try clear K13
     refine wp_seq_k (fun K14 hK14 => ?_)
     replace Hz : Has 94 [(1, _), (2, _), (4, _), (5, _), (6, _), (39, _), (40, _), (9, _), (10, _)] Az := Hz.only [1, 2, 4, 5, 6, 39, 40, 9, 10]
     refine regS Hz (.move rfl <| .not rfl <| .nil) ?_
     clear Hz Az; intro Az Hz
     refine wp_cond_false (Hz.ev (x := .tmp 66) rfl) ?_
     refine wp_skip ?_
     refine hK14 _ _ ?_; clear hK14; try clear K14
     refine wp_region_lit ?_
     refine goCh Hz (.loadBR m120 (i := 202) rfl rfl Tryd.underlying28 rfl sz28mta (by simp) (by dsimp only [List.drop, List.take] <;> rfl) <| .fieldAddr (off := 10) rfl Tryd.underlying30 rfl (s := 3) (by kernel_rfl) rfl <| .nil) ?_
     clear Hz Az; intro Az Hz
     refine wpList_plain rfl (fun K hK => ?_)
     refine e_storeR Hz m120 22 rfl rfl rfl rfl rfl sz28mta (by dsimp only [List.take, List.drop, List.append_eq, List.append] <;> rfl) ?_
     clear m120; intro w127 m127 hB127
     clear hB127
     refine hK _ _ ?_; clear hK K
     refine wpList_nil ?_
     show K7 _ _
     exact hC7 _ _ ⟨_, _, _, _, _, m.bi, m.bt, m.cf, m.bd, _, _, _, _, rfl, rfl, rfl, rfl, Hz.only [1, 2, 4, 5, 6], m127.ren [(1, 1), (2, 2), (20, 20), (21, 21), (22, 22), (12, 200), (13, 201)] (by decide)⟩
    ·
     clear Hz; intro hb110 Hz
     try simp only [Q1x, Q2x, Q3x, Q4x, Q5x, Q6x, Q7x, Q8x, Q9x, Q0x, Qax, Qbx] at hb110
     have hk7 : ¬ m.k = 7 := fun h8 => by have h9 := hb110; simp [bitI, h8] at h9
     refine wp_cond_false (Hz.ev (x := .tmp 59) rfl) ?_
     refine wp_skip ?_
     obtain ⟨z1, z2, z3, z4⟩ := hO.base0 hk7
     have h11z : b11 = b12 := by rw [h11, show baseM m = [] from if_neg hk7, List.nil_append]
     have m128 := m107.dat 12 rfl (Rd.nilN _ _ .i64 none)
     have m129 := m128.dat 13 rfl (Rd.nilN _ _ .u8 none)
     rw [h11z] at m129
     show K7 _ _
     exact hC7 _ _ ⟨_, _, _, _, _, 0, 0, [], [], _, _, _, _, z1.symm, z2.symm, z3.symm, z4.symm, Hz.only [1, 2, 4, 5, 6], m129.ren [(1, 1), (2, 2), (20, 20), (21, 21), (22, 22), (12, 12), (13, 13)] (by decide)⟩
 replace Hz : Has 94 [(1, _), (2, _), (3, _), (4, _), (5, _), (6, _), (30, _)] Az := Hz.only [1, 2, 3, 4, 5, 6, 30]
 refine wp_region_lit ?_
 refine goCh Hz (.loadB1 m48 (i := 20) rfl rfl rfl Tryd.underlying51 rfl .nil) ?_
 clear Hz Az; intro Az Hz
 refine wpList_plain rfl (fun K hK => ?_)
 refine e_call Hz Tryd.func35 rfl rfl rfl rfl (pnum_ok _ _ _ 1 _ _ _ (bitI m.n.ok) b9 hl8 hy8 h8 (by omega) (by omega) (m48.into [(1, 1), (2, 2)] (by decide) rfl)) ?_
 rintro e w132 ⟨p132, c132, rfl, hm132⟩
 have mx132 := m48.back hm132 [(1, 1), (2, 2)] (by decide); clear hm132 m48
 have m132 : MemOk _ _ [(1, _), (2, _), (20, _), (21, _), (22, _)] _ := mx132.only [1, 2, 20, 21, 22]; clear mx132
 refine ⟨_, rfl, ?_⟩; clear Hz Az; intro Az Hz
 refine hK _ _ ?_; clear hK K
 refine goCh Hz (.eql rfl rfl <| .fieldAddr (off := 8) rfl Tryd.underlying30 rfl (s := 0) (by kernel_rfl) rfl <| .nil) ?_
 clear Hz Az; intro Az Hz
 refine wpList_plain rfl (fun K hK => ?_)
 refine e_store1 Hz m132 22 rfl rfl rfl rfl rfl sz4mta (by dsimp only [List.set] <;> rfl) ?_
 clear m132; intro w136 m136 hB136
 clear hB136
 refine hK _ _ ?_; clear hK K
 refine wpList_nil ?_
 rw [hok] at m136
 show K3 _ _
 exact hC3 _ _ ⟨_, _, _, _, _, Hz.only [1, 2, 4, 5, 6], m136.ren [(1, 1), (2, 2), (20, 20), (21, 21), (22, 22)] (by decide)⟩
end Go.Proofs.YtmoghepeggohhaaDoor.K
