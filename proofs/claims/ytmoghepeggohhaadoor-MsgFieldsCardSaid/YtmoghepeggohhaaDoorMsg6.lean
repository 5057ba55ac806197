/- msg: Read of its own bytes and of none; Same of messages without entries. -/
import Derived.Test.YtmoghepeggohhaaDoorMsgO
namespace Go.Proofs.YtmoghepeggohhaaDoor.K
open Go.ChangeShapes Go.WideShapes Go.ChangeAt Go.RowKit
set_option linter.unusedVariables false
set_option linter.unusedSimpArgs false

theorem sz30mre : (Tryd.prog.info? 30).map (·.size) = some 19 := by kernel_rfl
theorem zc30mre : ((Tryd.prog.info? 30).bind (·.zero)).map (·.cells.toList) = some [.int .i64 0, .int .i64 0, .int .i64 0, .int .i64 0, .int .i64 0, .int .i64 0, .int .i64 0, .int .i64 0, .bool false, .slice none 0 0, .int .i64 0, .int .i64 0, .slice none 0 0, .slice none 0 0, .slice none 0 0, .int .i64 0, .int .i64 0, .int .i64 0, .int .i64 0] := by kernel_rfl
theorem ps30mr0 : placesS Tryd.prog 30 = some [(0, 1), (1, 1), (2, 1), (3, 1), (4, 1), (5, 1), (6, 1), (7, 1), (8, 1), (9, 1), (10, 4), (14, 1), (15, 1), (16, 1), (17, 1), (18, 1)] := by kernel_rfl
theorem sz30mr0 : (Tryd.prog.info? 30).map (·.size) = some 19 := by kernel_rfl
theorem zc30mr0 : ((Tryd.prog.info? 30).bind (·.zero)).map (·.cells.toList) = some [.int .i64 0, .int .i64 0, .int .i64 0, .int .i64 0, .int .i64 0, .int .i64 0, .int .i64 0, .int .i64 0, .bool false, .slice none 0 0, .int .i64 0, .int .i64 0, .slice none 0 0, .slice none 0 0, .slice none 0 0, .int .i64 0, .int .i64 0, .int .i64 0, .int .i64 0] := by kernel_rfl

theorem sz28msa : (Tryd.prog.info? 28).map (·.size) = some 4 := by kernel_rfl
theorem sz30msa : (Tryd.prog.info? 30).map (·.size) = some 19 := by kernel_rfl

set_option maxRecDepth 100000
set_option maxHeartbeats 4000000
theorem mread_ok (m : MV) (hR : msgR m = true) (p : Option Addr) (c : Nat) (w0 : World) (hT : TabOk w0) (h01 : 1 ≤ w0.heap.size) (hrd : Rd (fun _ => True) w0 (.slice p (msgB m).length c) (.ns .u8 (msgB m))) (hbb : BytesL m.bd) (hda : BytesL m.da) (hl3 : m.bd.length ≤ 1000) (hl4 : m.da.length ≤ 1000) :
   Calls Tryd.prog 6 #[.slice p (msgB m).length c] w0 fun e w' => ∃ (q2 q3 q4 : Option Addr) (e2 e3 e4 : Nat), e = .returned (.tuple #[.agg #[.int .i64 m.k, .int .i64 m.g, .int .i64 m.f, .int .i64 m.t, .int .i64 m.n.te, .int .i64 m.n.ix, .int .i64 m.n.lt, .int .i64 m.n.co, .bool m.n.ok, .slice none 0 0, .int .i64 m.bi, .int .i64 m.bt, .slice q2 m.cf.length e2, .slice q3 m.bd.length e3, .slice q4 m.da.length e4, .int .i64 m.n.vo, .int .i64 m.n.ch, .int .i64 m.n.ma, .int .i64 m.n.fl], .int .i64 0]) ∧ Rd (New w0) w' (.slice q2 m.cf.length e2) (.ns .i64 m.cf) ∧ Rd (New w0) w' (.slice q3 m.bd.length e3) (.ns .u8 m.bd) ∧ Rd (New w0) w' (.slice q4 m.da.length e4) (.ns .u8 m.da) ∧ Below w0.heap.size w0 w' := by
 have hO := msgR_out hR
 have hcf := hO.cf
 have hq5 := bodyM_len hO
 have hlB : (bodyM m).length ≤ 9000 := by omega
 have hl0 : (bodyM m).length ≤ 1000000 := by omega
 have hy0 : BytesL (bodyM m) := bodyM_bytes hO hbb hda (by omega)
 have hyM : BytesL (msgB m) := sealBytes hy0
 obtain ⟨b1, b2, b3, b4, b5, b6, b7, b8, b9, b10, b11, b12, b13, b14, b15, b16, h0, h1, h2, h3, h4, h5, h6, h7, h8, h9, h10, h11, h12, h13, h14, h15, h16⟩ := body_parts m
 refine enter (fn := Tryd.f6) Tryd.func6 rfl Tryd.ntmps6 rfl (fun Az Hz => ?_)
 simp only [List.zipIdx_cons, List.zipIdx_nil, List.map_cons, List.map_nil, Nat.reduceAdd, Nat.zero_add] at Hz
 have m0 := MemOk.start (fun _ => False) w0
 refine wp_seq_k (fun K0 hK0 => ?_)
 refine wp_region_lit ?_
 refine wpList_plain rfl (fun K hK => ?_)
 refine e_alloc Hz m0 30 zc30mre rfl ?_
 clear Hz Az m0; intro g1 Az w2 Hz m2 hB2 hg2
 clear hB2 hg2
 refine hK _ _ ?_; clear hK K
 refine goCh Hz (.assign rfl .nil) ?_
 clear Hz Az; intro Az Hz
 refine wpList_nil ?_
 refine hK0 _ _ ?_; clear hK0; try clear K0
 refine wp_seq_k (fun K1 hK1 => ?_)
 refine wp_region_lit ?_
 refine goCh Hz (.move rfl .nil) ?_
 clear Hz Az; intro Az Hz
 refine wpList_plain rfl (fun K hK => ?_)
 refine e_call Hz Tryd.func16 rfl rfl rfl rfl (open_own_ok (bodyM m) _ _ _ (hT.below m2.below h01) (Nat.le_trans h01 m2.below.size) ((hrd.now' m2 rfl).any) hy0 hlB) ?_
 rintro e w6 ⟨p6, c6, rfl, ho6, hb6⟩
 have m7 := m2.newN 31 hb6 ho6
 clear m2
 clear hb6 ho6
 refine ⟨_, rfl, ?_⟩; clear Hz Az; intro Az Hz
 refine hK _ _ ?_; clear hK K
 refine goCh Hz (.move rfl <| .extract rfl rfl <| .extract rfl rfl <| .assign rfl <| .assign rfl <| .nil) ?_
 clear Hz Az; intro Az Hz
 refine wpList_nil ?_
 refine hK1 _ _ ?_; clear hK1; try clear K1
 refine wp_seq_k (fun K2 hK2 => ?_)
 refine regS Hz (.move rfl <| .not rfl <| .nil) ?_
 clear Hz Az; intro Az Hz
 refine wp_cond_false (Hz.ev (x := .tmp 15) rfl) ?_
 refine wp_skip ?_
 refine hK2 _ _ ?_; clear hK2; try clear K2
 replace Hz : Has 41 [(0, _), (2, _), (3, _), (4, _), (5, _)] Az := Hz.only [0, 2, 3, 4, 5]
 refine wp_seq_k (fun K3 hK3 => ?_)
 refine wp_region_lit ?_
 refine goCh Hz (.move rfl .nil) ?_
 clear Hz Az; intro Az Hz
 have m19 := m7.freezeN 31 rfl; clear m7
 refine wpList_plain rfl (fun K hK => ?_)
 refine e_call Hz Tryd.func18 rfl rfl rfl rfl (pnew_f _ (bodyM m) _ _ _ hl0 (m19.into [(1, 31)] (by decide) rfl)) ?_
 rintro e w20 ⟨B20, p20, c20, rfl, hm20⟩
 have mx20 := m19.back hm20 [(32, 1), (33, 2), (31, 3)] (by decide); clear hm20 m19
 have m20 : MemOk _ _ [(32, _), (33, _), (31, _), (30, _)] _ := mx20.only [32, 33, 31, 30]; clear mx20
 refine ⟨_, rfl, ?_⟩; clear Hz Az; intro Az Hz
 refine hK _ _ ?_; clear hK K
 refine wpList_plain rfl (fun K hK => ?_)
 refine e_call Hz Tryd.func17 rfl rfl rfl rfl (mtake_ok _ _ m hO (bodyM m) b1 b2 b3 b4 b5 b6 b7 b8 b9 b10 b11 b12 b13 b14 b15 b16 _ _ _ hl0 hy0 (by omega) h0 h1 h2 h3 h4 h5 h6 h7 h8 h9 h10 h11 h12 h13 h14 h15 h16 (m20.into [(1, 32), (2, 33)] (by decide) rfl)) ?_
 rintro e w22 ⟨q222, q322, q422, e222, e322, e422, rfl, hm22⟩
 have mx22 := m20.back hm22 [(34, 3), (35, 4), (36, 5)] (by decide); clear hm22 m20
 have m22 : MemOk _ _ [(34, _), (35, _), (36, _), (30, _), (31, _)] _ := mx22.only [34, 35, 36, 30, 31]; clear mx22
 refine ⟨_, rfl, ?_⟩; clear Hz Az; intro Az Hz
 refine hK _ _ ?_; clear hK K
 refine goCh Hz (.move rfl <| .extract rfl rfl <| .extract rfl rfl <| .nil) ?_
 clear Hz Az; intro Az Hz
 refine wpList_plain rfl (fun K hK => ?_)
 refine e_alloc Hz m22 37 zc30mre rfl ?_
 clear Hz Az m22; intro g27 Az w28 Hz m28 hB28 hg28
 clear hB28 hg28
 refine hK _ _ ?_; clear hK K
 refine wpList_plain rfl (fun K hK => ?_)
 refine e_storeW Hz m28 37 rfl rfl rfl rfl rfl sz30mre ?_
 clear m28; intro w29 m29 hB29
 clear hB29
 refine hK _ _ ?_; clear hK K
 refine goCh Hz (.assign rfl .nil) ?_
 clear Hz Az; intro Az Hz
 refine wpList_nil ?_
 refine hK3 _ _ ?_; clear hK3; try clear K3
 refine wp_seq_k (fun K4 hK4 => ?_)
 replace Hz : Has 41 [(0, _), (2, _), (3, _), (5, _), (6, _)] Az := Hz.only [0, 2, 3, 5, 6]
 refine regS Hz (.move rfl <| .not rfl <| .nil) ?_
 clear Hz Az; intro Az Hz
 refine wp_cond_false (Hz.ev (x := .tmp 24) rfl) ?_
 refine wp_skip ?_
 refine hK4 _ _ ?_; clear hK4; try clear K4
 refine wp_seq_k (fun K5 hK5 => ?_)
 refine wp_seq_k (fun K6 hK6 => ?_)
 refine wp_region_lit ?_
 refine goCh Hz (.loadBR m29 (i := 37) rfl rfl Tryd.underlying30 rfl sz30mre (by simp) (by dsimp only [List.drop, List.take] <;> rfl) .nil) ?_
 clear Hz Az; intro Az Hz
 refine wpList_plain rfl (fun K hK => ?_)
 refine e_call Hz Tryd.func5 rfl rfl rfl rfl (mput_yes m hR _ _ _ _ _ _ _ _ _ (hT.below m29.below h01) (Nat.le_trans h01 m29.below.size) ((m29.rd (i := 34) rfl).any) ((m29.rd (i := 35) rfl).any) ((m29.rd (i := 36) rfl).any) (by omega) hbb hda hl3 hl4) ?_
 rintro e w36 ⟨p36, c36, rfl, ho36, hb36⟩
 have m37 := m29.newN 38 hb36 ho36
 clear m29
 clear hb36 ho36
 refine ⟨_, rfl, ?_⟩; clear Hz Az; intro Az Hz
 refine hK _ _ ?_; clear hK K
 refine goCh Hz (.move rfl <| .extract rfl rfl <| .extract rfl rfl <| .assign rfl <| .assign rfl <| .nil) ?_
 clear Hz Az; intro Az Hz
 refine wpList_nil ?_
 refine hK6 _ _ ?_; clear hK6; try clear K6
 replace Hz : Has 41 [(0, _), (2, _), (3, _), (6, _), (30, _), (7, _), (8, _)] Az := Hz.only [0, 2, 3, 6, 30, 7, 8]
 refine wp_seq_k (fun K7 hK7 => ?_)
 refine wp_region_lit ?_
 refine goCh Hz (.move rfl <| .neq rfl rfl <| .move rfl <| .nil) ?_
 clear Hz Az; intro Az Hz
 refine bool_cases Hz (t := 33) rfl ?_ ?_
 · intro hb _; exact absurd hb (by simp)
 clear Hz; intro _ Hz
 refine goCh Hz (.moveZ rfl <| .moveZ rfl <| .nil) ?_
 clear Hz Az; intro Az Hz
 have m54 := m37.freezeN 38 rfl; clear m37
 refine st_ge Hz rfl rfl rfl rfl (fun K hK => ?_)
 refine e_call Hz Tryd.func19 rfl rfl rfl rfl (bEq_yes (msgB m) _ _ _ _ _ ((m54.rd (i := 38) rfl).any) ((hrd.now' m54 rfl).any) hyM) ?_
 rintro e w55 ⟨rfl, hb55⟩
 have m56 := m54.later hb55
 clear m54
 clear hb55
 refine ⟨_, rfl, ?_⟩; clear Hz Az; intro Az Hz
 refine hK _ _ ?_; clear hK K
 refine goCh Hz (.notZ rfl <| .pickF rfl rfl <| .nil) ?_
 clear Hz Az; intro Az Hz
 refine wpList_nil ?_
 refine hK7 _ _ ?_; clear hK7; try clear K7
 refine wp_cond_false (Hz.ev (x := .tmp 38) rfl) ?_
 refine wp_skip ?_
 refine hK5 _ _ ?_; clear hK5; try clear K5
 replace Hz : Has 41 [(2, _), (3, _), (6, _), (30, _), (33, _)] Az := Hz.only [2, 3, 6, 30, 33]
 refine wp_seq_k (fun K8 hK8 => ?_)
 refine wp_region_lit ?_
 refine goCh Hz (.loadBR m56 (i := 37) rfl rfl Tryd.underlying30 rfl sz30mre (by simp) (by dsimp only [List.drop, List.take] <;> rfl) .nil) ?_
 clear Hz Az; intro Az Hz
 refine wpList_plain rfl (fun K hK => ?_)
 refine e_storeW Hz m56 30 rfl rfl rfl rfl rfl sz30mre ?_
 clear m56; intro w63 m63 hB63
 clear hB63
 refine hK _ _ ?_; clear hK K
 refine goCh Hz (.assign rfl .nil) ?_
 clear Hz Az; intro Az Hz
 refine wpList_nil ?_
 refine hK8 _ _ ?_; clear hK8; try clear K8
 refine wp_ret ?_
 try dsimp only [Exit.then, Exit.inBlock]
 refine (retCT (fn := Tryd.f6) Hz m63 (i := 30) rfl rfl rfl rfl Tryd.underlying30 rfl sz30mre ?_)
 exact ⟨_, _, _, _, _, _, rfl, m63.outF (i := 34) rfl, m63.outF (i := 35) rfl, m63.outF (i := 36) rfl, m63.below⟩
theorem mread_none (w0 : World) :
   Calls Tryd.prog 6 #[.slice none 0 0] w0 fun e w' => e = .returned (.tuple #[.agg #[.int .i64 0, .int .i64 0, .int .i64 0, .int .i64 0, .int .i64 0, .int .i64 0, .int .i64 0, .int .i64 0, .bool false, .slice none 0 0, .int .i64 0, .int .i64 0, .slice none 0 0, .slice none 0 0, .slice none 0 0, .int .i64 0, .int .i64 0, .int .i64 0, .int .i64 0], .int .i64 24]) ∧ Below w0.heap.size w0 w' := by
 refine enter (fn := Tryd.f6) Tryd.func6 rfl Tryd.ntmps6 rfl (fun Az Hz => ?_)
 simp only [List.zipIdx_cons, List.zipIdx_nil, List.map_cons, List.map_nil, Nat.reduceAdd, Nat.zero_add] at Hz
 have m0 := MemOk.start (fun _ => False) w0
 refine wp_seq_k (fun K0 hK0 => ?_)
 refine wp_region_lit ?_
 refine wpList_plain rfl (fun K hK => ?_)
 refine e_alloc Hz m0 30 zc30mr0 rfl ?_
 clear Hz Az m0; intro g1 Az w2 Hz m2 hB2 hg2
 clear hB2 hg2
 refine hK _ _ ?_; clear hK K
 refine goCh Hz (.assign rfl .nil) ?_
 clear Hz Az; intro Az Hz
 refine wpList_nil ?_
 refine hK0 _ _ ?_; clear hK0; try clear K0
 refine wp_seq_k (fun K1 hK1 => ?_)
 refine wp_region_lit ?_
 refine goCh Hz (.move rfl .nil) ?_
 clear Hz Az; intro Az Hz
 refine wpList_plain rfl (fun K hK => ?_)
 refine e_call Hz Tryd.func16 rfl rfl rfl rfl (open_none _) ?_
 rintro e w6 ⟨p6, c6, rfl, hb6⟩
 have m7 := m2.later hb6
 clear m2
 clear hb6
 refine ⟨_, rfl, ?_⟩; clear Hz Az; intro Az Hz
 refine hK _ _ ?_; clear hK K
 refine goCh Hz (.move rfl <| .extract rfl rfl <| .extract rfl rfl <| .assign rfl <| .assign rfl <| .nil) ?_
 clear Hz Az; intro Az Hz
 refine wpList_nil ?_
 refine hK1 _ _ ?_; clear hK1; try clear K1
 refine wp_seq_k (fun K2 hK2 => ?_)
 refine regS Hz (.move rfl <| .not rfl <| .nil) ?_
 clear Hz Az; intro Az Hz
 refine wp_cond_true (Hz.ev (x := .tmp 15) rfl) ?_
 replace Hz : Has 41 [(0, _), (2, _), (3, _), (4, _), (5, _)] Az := Hz.only [0, 2, 3, 4, 5]
 refine wp_seq_k (fun K3 hK3 => ?_)
 refine wp_region_lit ?_
 refine goCh Hz (.buildG rfl zc30mr0 ps30mr0 rfl .nil) ?_
 clear Hz Az; intro Az Hz
 refine wpList_plain rfl (fun K hK => ?_)
 refine e_storeW Hz m7 30 rfl rfl rfl rfl rfl sz30mr0 ?_
 clear m7; intro w19 m19 hB19
 clear hB19
 refine hK _ _ ?_; clear hK K
 refine goCh Hz (.assign rfl .nil) ?_
 clear Hz Az; intro Az Hz
 refine wpList_nil ?_
 refine hK3 _ _ ?_; clear hK3; try clear K3
 refine wp_ret ?_
 try dsimp only [Exit.then, Exit.inBlock]
 refine (retCT (fn := Tryd.f6) Hz m19 (i := 30) rfl rfl rfl rfl Tryd.underlying30 rfl sz30mr0 ?_)
 exact ⟨rfl, m19.below⟩
theorem eqF_none (p q : Option Addr) (c d : Nat) (w0 : World) :
   Calls Tryd.prog 21 #[.slice p 0 c, .slice q 0 d, .func (.func 22) #[] #[]] w0 fun e w' => e = .returned (.bool true) ∧ Below w0.heap.size w0 w' := by
 refine enter (fn := Tryd.f21) Tryd.func21 rfl Tryd.ntmps21 rfl (fun Az Hz => ?_)
 simp only [List.zipIdx_cons, List.zipIdx_nil, List.map_cons, List.map_nil, Nat.reduceAdd, Nat.zero_add] at Hz
 have m0 := MemOk.start (fun _ => False) w0
 refine regS Hz (.assign rfl <| .nil) ?_
 clear Hz Az; intro Az Hz
 refine wp_seq_k (fun K0 hK0 => ?_)
 refine regS Hz (.move rfl <| .len rfl Tryd.underlying24 <| .move rfl <| .len rfl Tryd.underlying24 <| .neq rfl rfl <| .nil) ?_
 clear Hz Az; intro Az Hz
 refine bool_cases Hz (t := 14) rfl ?_ ?_
 · intro hb _; exact absurd hb (by simp)
 clear Hz; intro _ Hz
 refine wp_cond_false (Hz.ev (x := .tmp 14) rfl) ?_
 refine wp_skip ?_
 refine hK0 _ _ ?_; clear hK0; try clear K0
 refine wp_seq_k (fun K1 hK1 => ?_)
 refine regS Hz (.move rfl <| .len rfl Tryd.underlying24 <| .move rfl <| .nil) ?_
 clear Hz Az; intro Az Hz
 refine wp_block ?_
 refine wp_loop_ghost (fun g a w => g = 0 ∧ Has 32 [(16, .int .i64 0), (17, .int .i64 0)] a ∧ MemOk (cx (fun _ => False) w0) w0 [] w) (0) ?_ ?_
 · exact ⟨rfl, Hz.only [16, 17], m0.only []⟩
 ·
  clear Hz m0
  rintro g Az w11 ⟨hg, Hz, m11⟩
  refine regS Hz (.lss rfl rfl <| .nil) ?_
  clear Hz Az; intro Az Hz
  refine wp_seq_k (fun K2 hK2 => ?_)
  refine bool_cases Hz (t := 18) rfl ?_ ?_
  · intro hb _; exact absurd hb (by simp)
  clear Hz; intro _ Hz
  refine wp_cond_false (Hz.ev (x := .tmp 18) rfl) ?_
  refine wp_exit ?_
  refine hK1 _ _ ?_; clear hK1; try clear K1
  refine regS Hz (.assign rfl <| .nil) ?_
  clear Hz Az; intro Az Hz
  refine wp_ret ?_
  try dsimp only [Exit.then, Exit.inBlock]
  refine (ret1 (fn := Tryd.f21) Hz rfl rfl ?_)
  exact ⟨rfl, m11.below⟩
theorem msame_x (m n : MV) (pe p2 p3 p4 qe q2 q3 q4 : Option Addr) (ce c2 c3 c4 de d2 d3 d4 : Nat) (w0 : World) (h2 : Rd (fun _ => True) w0 (.slice p2 m.cf.length c2) (.ns .i64 m.cf)) (h3 : Rd (fun _ => True) w0 (.slice p3 m.bd.length c3) (.ns .u8 m.bd)) (h4 : Rd (fun _ => True) w0 (.slice p4 m.da.length c4) (.ns .u8 m.da)) (k2 : Rd (fun _ => True) w0 (.slice q2 n.cf.length d2) (.ns .i64 n.cf)) (k3 : Rd (fun _ => True) w0 (.slice q3 n.bd.length d3) (.ns .u8 n.bd)) (k4 : Rd (fun _ => True) w0 (.slice q4 n.da.length d4) (.ns .u8 n.da)) (hcl : m.cf.length ≤ 900) (hbm : BytesL m.bd) (hbn : BytesL n.bd) (ham : BytesL m.da) (han : BytesL n.da) :
   Calls Tryd.prog 7 #[.agg #[.int .i64 m.k, .int .i64 m.g, .int .i64 m.f, .int .i64 m.t, .int .i64 m.n.te, .int .i64 m.n.ix, .int .i64 m.n.lt, .int .i64 m.n.co, .bool m.n.ok, .slice pe 0 ce, .int .i64 m.bi, .int .i64 m.bt, .slice p2 m.cf.length c2, .slice p3 m.bd.length c3, .slice p4 m.da.length c4, .int .i64 m.n.vo, .int .i64 m.n.ch, .int .i64 m.n.ma, .int .i64 m.n.fl], .agg #[.int .i64 n.k, .int .i64 n.g, .int .i64 n.f, .int .i64 n.t, .int .i64 n.n.te, .int .i64 n.n.ix, .int .i64 n.n.lt, .int .i64 n.n.co, .bool n.n.ok, .slice qe 0 de, .int .i64 n.bi, .int .i64 n.bt, .slice q2 n.cf.length d2, .slice q3 n.bd.length d3, .slice q4 n.da.length d4, .int .i64 n.n.vo, .int .i64 n.n.ch, .int .i64 n.n.ma, .int .i64 n.n.fl]] w0 fun e w' => e = .returned (.bool (sameB m n)) ∧ Below w0.heap.size w0 w' := by
 refine enter (fn := Tryd.f7) Tryd.func7 rfl Tryd.ntmps7 rfl (fun Az Hz => ?_)
 simp only [List.zipIdx_cons, List.zipIdx_nil, List.map_cons, List.map_nil, Nat.reduceAdd, Nat.zero_add] at Hz
 have m0 := MemOk.start (fun _ => True) w0
 refine wp_seq_k (fun K0 hK0 => ?_)
 refine wp_region_lit ?_
 refine wpList_plain rfl (fun K hK => ?_)
 refine e_box Hz m0 30 (cs := [_, _, _, _, _, _, _, _, _, _, _, _, _, _, _, _, _, _, _]) rfl rfl rfl ?_
 clear Hz Az m0; intro g1 Az w2 Hz m2 hB2 hg2
 clear hB2 hg2
 refine hK _ _ ?_; clear hK K
 refine wpList_plain rfl (fun K hK => ?_)
 refine e_box Hz m2 31 (cs := [_, _, _, _, _, _, _, _, _, _, _, _, _, _, _, _, _, _, _]) rfl rfl rfl ?_
 clear Hz Az m2; intro g3 Az w4 Hz m4 hB4 hg4
 clear hB4 hg4
 refine hK _ _ ?_; clear hK K
 refine goCh Hz (.assign rfl .nil) ?_
 clear Hz Az; intro Az Hz
 refine wpList_nil ?_
 refine hK0 _ _ ?_; clear hK0; try clear K0
 refine wp_seq_k (fun K1 hK1 => ?_)
 have m6 : MemOk _ _ [(30, _), (31, _)] _ := m4.only [30, 31]; clear m4
 refine region_p 27 (B := [(30, _), (31, _)]) (m6.to ⟨il, il, trivial⟩) m6 (by kernel_rfl) (fun w7 hP7 m7 => ?_); clear m6
 refine goR hP7 [0, 2] [0, 2] 2 0 5 Hz (m7.to ⟨il, il, trivial⟩) (.loadBR hh (i := 30) rfl rfl Tryd.underlying30 rfl sz30msa (by simp) (by dsimp only [List.drop, List.take] <;> rfl) <| .loadBR hh (i := 31) rfl rfl Tryd.underlying30 rfl sz30msa (by simp) (by dsimp only [List.drop, List.take] <;> rfl) <| .nil) ?_
 clear Hz Az; intro Az Hz
 refine stepE_only 1 rfl (by kernel_rfl) rfl (fun K hK => ?_)
 refine e_call Hz Tryd.func20 rfl rfl rfl rfl (headOf_x m _ _ _ _ _ _ _ _ _) ?_
 rintro e w10 ⟨rfl, hb10⟩
 have m11 := m7.later hb10
 clear m7
 clear hb10
 refine ⟨_, rfl, ?_⟩; clear Hz Az; intro Az Hz
 refine hK _ _ (m11.to ⟨il, il, trivial⟩) ?_; clear hK K
 refine stepE_only 3 rfl (by kernel_rfl) rfl (fun K hK => ?_)
 refine e_call Hz Tryd.func20 rfl rfl rfl rfl (headOf_x n _ _ _ _ _ _ _ _ _) ?_
 rintro e w13 ⟨rfl, hb13⟩
 have m14 := m11.later hb13
 clear m11
 clear hb13
 refine ⟨_, rfl, ?_⟩; clear Hz Az; intro Az Hz
 refine hK _ _ (m14.to ⟨il, il, trivial⟩) ?_; clear hK K
 refine goA hP7 [4, 5] 2 15 63 Hz (m14.to ⟨il, il, trivial⟩) (.p (fun _ _ h_ => y_eqlHd h_ rfl rfl) <| .move rfl <| .nil) ?_
 clear Hz Az; intro Az Hz
 refine bool_cases Hz (t := 10) rfl ?_ ?_
 ·
  clear Hz; intro hb18 Hz
  try simp only [Q1x, Q2x, Q3x, Q4x, Q5x, Q6x, Q7x, Q8x, Q9x, Q0x, Qax, Qbx] at hb18
  have e1 := hb18
  refine goR hP7 [6, 7, 8, 9] [7, 9] 4 63 1023 Hz (m14.to ⟨il, il, trivial⟩) (.fieldAddr (off := 9) rfl Tryd.underlying30 rfl (s := 0) (by kernel_rfl) rfl <| .loadB1 hh (i := 30) rfl rfl rfl Tryd.underlying24 rfl <| .fieldAddr (off := 9) rfl Tryd.underlying30 rfl (s := 0) (by kernel_rfl) rfl <| .loadB1 hh (i := 31) rfl rfl rfl Tryd.underlying24 rfl <| .nil) ?_
  clear Hz Az; intro Az Hz
  refine stepE_only 10 rfl (by kernel_rfl) (wantedG Hz rfl rfl rfl rfl) (fun K hK => ?_)
  refine e_call Hz Tryd.func21 rfl rfl rfl rfl (eqF_none _ _ _ _ _) ?_
  rintro e w23 ⟨rfl, hb23⟩
  have m24 := m14.later hb23
  clear m14
  clear hb23
  refine ⟨_, rfl, ?_⟩; clear Hz Az; intro Az Hz
  refine hK _ _ (m24.to ⟨il, il, trivial⟩) ?_; clear hK K
  refine goR hP7 [11, 12, 13, 14, 15, 16] [14, 16] 6 2047 131071 Hz (m24.to ⟨il, il, trivial⟩) (.pickT rfl rfl <| .move rfl <| .fieldAddr (off := 10) rfl Tryd.underlying30 rfl (s := 3) (by kernel_rfl) rfl <| .loadBR hh (i := 30) rfl rfl Tryd.underlying28 rfl sz28msa (by simp) (by dsimp only [List.drop, List.take] <;> rfl) <| .fieldAddr (off := 10) rfl Tryd.underlying30 rfl (s := 3) (by kernel_rfl) rfl <| .loadBR hh (i := 31) rfl rfl Tryd.underlying28 rfl sz28msa (by simp) (by dsimp only [List.drop, List.take] <;> rfl) <| .nil) ?_
  clear Hz Az; intro Az Hz
  refine stepE_only 17 rfl (by kernel_rfl) (wantedG Hz rfl rfl rfl rfl) (fun K hK => ?_)
  refine e_call Hz Tryd.func23 rfl rfl rfl rfl (baseSame_any m.bi m.bt n.bi n.bt _ _ _ _ m.cf m.bd n.cf n.bd _ (((h2.now' m24 rfl).any).ns_out.nums) (((k2.now' m24 rfl).any).ns_out.nums) (((h3.now' m24 rfl).any).ns_out.nums) (((k3.now' m24 rfl).any).ns_out.nums) hbm hbn (by omega)) ?_
  rintro e w32 ⟨rfl, hb32⟩
  have m33 := m24.later hb32
  clear m24
  clear hb32
  refine ⟨_, rfl, ?_⟩; clear Hz Az; intro Az Hz
  refine hK _ _ (m33.to ⟨il, il, trivial⟩) ?_; clear hK K
  refine goA hP7 [18, 19] 2 262143 1048575 Hz (m33.to ⟨il, il, trivial⟩) (.pickT rfl rfl <| .move rfl <| .nil) ?_
  clear Hz Az; intro Az Hz
  refine bool_cases Hz (t := 24) rfl ?_ ?_
  ·
   clear Hz; intro hb37 Hz
   try simp only [Q1x, Q2x, Q3x, Q4x, Q5x, Q6x, Q7x, Q8x, Q9x, Q0x, Qax, Qbx] at hb37
   have e2 := hb37
   refine goR hP7 [20, 21, 22, 23] [21, 23] 4 1048575 16777215 Hz (m33.to ⟨il, il, trivial⟩) (.fieldAddr (off := 14) rfl Tryd.underlying30 rfl (s := 0) (by kernel_rfl) rfl <| .loadB1 hh (i := 30) rfl rfl rfl Tryd.underlying26 rfl <| .fieldAddr (off := 14) rfl Tryd.underlying30 rfl (s := 0) (by kernel_rfl) rfl <| .loadB1 hh (i := 31) rfl rfl rfl Tryd.underlying26 rfl <| .nil) ?_
   clear Hz Az; intro Az Hz
   refine stepE_only 24 rfl (by kernel_rfl) (wantedG Hz rfl rfl rfl rfl) (fun K hK => ?_)
   refine e_call Hz Tryd.func19 rfl rfl rfl rfl (bEq_x m.da n.da _ _ _ _ _ ((h4.now' m33 rfl).any) ((k4.now' m33 rfl).any) ham han) ?_
   rintro e w42 ⟨rfl, hb42⟩
   have m43 := m33.later hb42
   clear m33
   clear hb42
   refine ⟨_, rfl, ?_⟩; clear Hz Az; intro Az Hz
   refine hK _ _ (m43.to ⟨il, il, trivial⟩) ?_; clear hK K
   refine goA hP7 [25, 26] 2 33554431 134217727 Hz (m43.to ⟨il, il, trivial⟩) (.pickT rfl rfl <| .assign rfl <| .nil) ?_
   clear Hz Az; intro Az Hz
   refine wpAnyE_done (by kernel_rfl) ?_ _
   refine hK1 _ _ ?_; clear hK1; try clear K1
   refine wp_ret ?_
   try dsimp only [Exit.then, Exit.inBlock]
   refine (ret1 (fn := Tryd.f7) Hz rfl rfl ?_)
   refine ⟨?_, m43.below⟩
   unfold sameB
   first | (rw [decide_eq_false e1]; rfl) | (rw [decide_eq_true e1, decide_eq_false e2]; rfl) | (rw [decide_eq_true e1, decide_eq_true e2]; rfl)
  ·
   clear Hz; intro hb37 Hz
   try simp only [Q1x, Q2x, Q3x, Q4x, Q5x, Q6x, Q7x, Q8x, Q9x, Q0x, Qax, Qbx] at hb37
   have e2 := hb37
   refine goA hP7 [20, 21, 22, 23, 24, 25, 26] 7 1048575 134217727 Hz (m33.to ⟨il, il, trivial⟩) (.s <| .s <| .s <| .s <| .s <| .pickF rfl rfl <| .assign rfl <| .nil) ?_
   clear Hz Az; intro Az Hz
   refine wpAnyE_done (by kernel_rfl) ?_ _
   refine hK1 _ _ ?_; clear hK1; try clear K1
   refine wp_ret ?_
   try dsimp only [Exit.then, Exit.inBlock]
   refine (ret1 (fn := Tryd.f7) Hz rfl rfl ?_)
   refine ⟨?_, m33.below⟩
   unfold sameB
   first | (rw [decide_eq_false e1]; rfl) | (rw [decide_eq_true e1, decide_eq_false e2]; rfl) | (rw [decide_eq_true e1, decide_eq_true e2]; rfl)
 ·
  clear Hz; intro hb18 Hz
  try simp only [Q1x, Q2x, Q3x, Q4x, Q5x, Q6x, Q7x, Q8x, Q9x, Q0x, Qax, Qbx] at hb18
  have e1 := hb18
  refine goA hP7 [6, 7, 8, 9, 10, 11, 12, 13, 14, 15, 16, 17, 18, 19, 20, 21, 22, 23, 24, 25, 26] 21 63 134217727 Hz (m14.to ⟨il, il, trivial⟩) (.s <| .s <| .s <| .s <| .s <| .pickF rfl rfl <| .move rfl <| .s <| .s <| .s <| .s <| .s <| .pickF rfl rfl <| .move rfl <| .s <| .s <| .s <| .s <| .s <| .pickF rfl rfl <| .assign rfl <| .nil) ?_
  clear Hz Az; intro Az Hz
  refine wpAnyE_done (by kernel_rfl) ?_ _
  refine hK1 _ _ ?_; clear hK1; try clear K1
  refine wp_ret ?_
  try dsimp only [Exit.then, Exit.inBlock]
  refine (ret1 (fn := Tryd.f7) Hz rfl rfl ?_)
  refine ⟨?_, m14.below⟩
  unfold sameB
  first | (rw [decide_eq_false e1]; rfl) | (rw [decide_eq_true e1, decide_eq_false e2]; rfl) | (rw [decide_eq_true e1, decide_eq_true e2]; rfl)
end Go.Proofs.YtmoghepeggohhaaDoor.K
