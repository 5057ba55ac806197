/- msg: MsgFields' walk. -/
import Derived.Test.YtmoghepeggohhaaDoorMsgK
namespace Go.Proofs.YtmoghepeggohhaaDoor.K
open Go.ChangeShapes Go.WideShapes Go.ChangeAt Go.RowKit
set_option linter.unusedVariables false
set_option linter.unusedSimpArgs false

theorem ps30mkn : placesS Tryd.prog 30 = some [(0, 1), (1, 1), (2, 1), (3, 1), (4, 1), (5, 1), (6, 1), (7, 1), (8, 1), (9, 1), (10, 4), (14, 1), (15, 1), (16, 1), (17, 1), (18, 1)] := by kernel_rfl
theorem sz30mkn : (Tryd.prog.info? 30).map (·.size) = some 19 := by kernel_rfl
theorem zc30mkn : ((Tryd.prog.info? 30).bind (·.zero)).map (·.cells.toList) = some [.int .i64 0, .int .i64 0, .int .i64 0, .int .i64 0, .int .i64 0, .int .i64 0, .int .i64 0, .int .i64 0, .bool false, .slice none 0 0, .int .i64 0, .int .i64 0, .slice none 0 0, .slice none 0 0, .slice none 0 0, .int .i64 0, .int .i64 0, .int .i64 0, .int .i64 0] := by kernel_rfl
theorem fl28mfi : flatS Tryd.prog 28 [.int .i64 0, .int .i64 0, .slice none 0 0, .slice none 0 0] = true := by kernel_rfl
theorem inf3mfi : (Tryd.prog.info? 3).map (fun i => (i.zero, i.size, i.bytes)) = some (some (.int .i64 0), 1, 8) := by kernel_rfl
theorem inf5mfi : (Tryd.prog.info? 5).map (fun i => (i.zero, i.size, i.bytes)) = some (some (.int .u8 0), 1, 1) := by kernel_rfl
theorem ps30mfi : placesS Tryd.prog 30 = some [(0, 1), (1, 1), (2, 1), (3, 1), (4, 1), (5, 1), (6, 1), (7, 1), (8, 1), (9, 1), (10, 4), (14, 1), (15, 1), (16, 1), (17, 1), (18, 1)] := by kernel_rfl
theorem sz2mfi : (Tryd.prog.info? 2).map (·.size) = some 1 := by kernel_rfl
theorem sz3mfi : (Tryd.prog.info? 3).map (·.size) = some 1 := by kernel_rfl
theorem sz4mfi : (Tryd.prog.info? 4).map (·.size) = some 1 := by kernel_rfl
theorem sz26mfi : (Tryd.prog.info? 26).map (·.size) = some 1 := by kernel_rfl
theorem sz28mfi : (Tryd.prog.info? 28).map (·.size) = some 4 := by kernel_rfl
theorem sz30mfi : (Tryd.prog.info? 30).map (·.size) = some 19 := by kernel_rfl
theorem zc28mfi : ((Tryd.prog.info? 28).bind (·.zero)).map (·.cells.toList) = some [.int .i64 0, .int .i64 0, .slice none 0 0, .slice none 0 0] := by kernel_rfl
theorem zc30mfi : ((Tryd.prog.info? 30).bind (·.zero)).map (·.cells.toList) = some [.int .i64 0, .int .i64 0, .int .i64 0, .int .i64 0, .int .i64 0, .int .i64 0, .int .i64 0, .int .i64 0, .bool false, .slice none 0 0, .int .i64 0, .int .i64 0, .slice none 0 0, .slice none 0 0, .slice none 0 0, .int .i64 0, .int .i64 0, .int .i64 0, .int .i64 0] := by kernel_rfl

def msg0 : MV := ⟨3, 0, 1, 2, ⟨3, 4, 2, 0, false, 0, 0, 0, 0⟩, 0, 0, [], [], []⟩
def msgZ : MV := ⟨0, 0, 0, 0, ⟨0, 0, 0, 0, false, 0, 0, 0, 0⟩, 0, 0, [], [], []⟩
theorem msg0_ok : msgR msg0 = true := by decide
theorem msgZ_no : msgR msgZ = false := by decide
theorem msg0_ne : sameB msg0 msgZ = false := by decide
theorem cf900 {m : MV} (h : msgR m = true) : m.cf.length ≤ 900 := by have := (msgR_out h).cf; omega
theorem msame_v (m n : MV) (v : Bool) (hV : sameB m n = v) (pe p2 p3 p4 qe q2 q3 q4 : Option Addr) (ce c2 c3 c4 de d2 d3 d4 : Nat) (w0 : World) (h2 : Rd (fun _ => True) w0 (.slice p2 m.cf.length c2) (.ns .i64 m.cf)) (h3 : Rd (fun _ => True) w0 (.slice p3 m.bd.length c3) (.ns .u8 m.bd)) (h4 : Rd (fun _ => True) w0 (.slice p4 m.da.length c4) (.ns .u8 m.da)) (k2 : Rd (fun _ => True) w0 (.slice q2 n.cf.length d2) (.ns .i64 n.cf)) (k3 : Rd (fun _ => True) w0 (.slice q3 n.bd.length d3) (.ns .u8 n.bd)) (k4 : Rd (fun _ => True) w0 (.slice q4 n.da.length d4) (.ns .u8 n.da)) (hcl : m.cf.length ≤ 900) (hbm : BytesL m.bd) (hbn : BytesL n.bd) (ham : BytesL m.da) (han : BytesL n.da) :
   Calls Tryd.prog 7 #[.agg #[.int .i64 m.k, .int .i64 m.g, .int .i64 m.f, .int .i64 m.t, .int .i64 m.n.te, .int .i64 m.n.ix, .int .i64 m.n.lt, .int .i64 m.n.co, .bool m.n.ok, .slice pe 0 ce, .int .i64 m.bi, .int .i64 m.bt, .slice p2 m.cf.length c2, .slice p3 m.bd.length c3, .slice p4 m.da.length c4, .int .i64 m.n.vo, .int .i64 m.n.ch, .int .i64 m.n.ma, .int .i64 m.n.fl], .agg #[.int .i64 n.k, .int .i64 n.g, .int .i64 n.f, .int .i64 n.t, .int .i64 n.n.te, .int .i64 n.n.ix, .int .i64 n.n.lt, .int .i64 n.n.co, .bool n.n.ok, .slice qe 0 de, .int .i64 n.bi, .int .i64 n.bt, .slice q2 n.cf.length d2, .slice q3 n.bd.length d3, .slice q4 n.da.length d4, .int .i64 n.n.vo, .int .i64 n.n.ch, .int .i64 n.n.ma, .int .i64 n.n.fl]] w0 fun e w' => e = .returned (.bool v) ∧ Below w0.heap.size w0 w' := hV ▸ msame_x m n pe p2 p3 p4 qe q2 q3 q4 ce c2 c3 c4 de d2 d3 d4 w0 h2 h3 h4 k2 k3 k4 hcl hbm hbn ham han
set_option maxRecDepth 100000
set_option maxHeartbeats 4000000
theorem known_x (w0 : World) (hT : TabOk w0) (h01 : 1 ≤ w0.heap.size) : Calls Tryd.prog 4 #[] w0 fun e w' => e = .returned (.bool true) ∧ Below w0.heap.size w0 w' := by
 refine enter (fn := Tryd.f4) Tryd.func4 rfl Tryd.ntmps4 rfl (fun Az Hz => ?_)
 simp only [List.zipIdx_cons, List.zipIdx_nil, List.map_cons, List.map_nil, Nat.reduceAdd, Nat.zero_add] at Hz
 have m0 := MemOk.start (fun _ => False) w0
 refine regS Hz (.assign rfl <| .nil) ?_
 clear Hz Az; intro Az Hz
 refine wp_seq_k (fun K0 hK0 => ?_)
 have hC0 : ∀ (a : Act) (w : World), (∃ (Bm : Nat), Has 59 [(1, .pointer (some ⟨Bm, 0, none⟩))] a ∧ MemOk (cx (fun _ => False) w0) w0 [(20, .box Bm 30 [.int .i64 3, .int .i64 0, .int .i64 1, .int .i64 2, .int .i64 3, .int .i64 4, .int .i64 2, .int .i64 0, .bool false, .slice none 0 0, .int .i64 0, .int .i64 0, .slice none 0 0, .slice none 0 0, .slice none 0 0, .int .i64 0, .int .i64 0, .int .i64 0, .int .i64 0])] w) → K0 a w := by
   clear Hz m0
   rintro Az w2 ⟨Bm, Hz, m2⟩
   refine hK0 _ _ ?_; clear hK0; try clear K0
   refine wp_seq_k (fun K1 hK1 => ?_)
   refine wp_region_lit ?_
   refine goCh Hz (.loadBR m2 (i := 20) rfl rfl Tryd.underlying30 rfl sz30mkn (by simp) (by dsimp only [List.drop, List.take] <;> rfl) .nil) ?_
   clear Hz Az; intro Az Hz
   refine wpList_plain rfl (fun K hK => ?_)
   refine e_call Hz Tryd.func5 rfl rfl rfl rfl (mput_yes msg0 msg0_ok _ _ _ _ _ _ _ _ _ (hT.below m2.below h01) (Nat.le_trans h01 m2.below.size) (Rd.nilN _ _ .i64 none) (Rd.nilN _ _ .u8 none) (Rd.nilN _ _ .u8 none) (by decide) (fun _ h => by cases h) (fun _ h => by cases h) (by decide) (by decide)) ?_
   rintro e w5 ⟨p5, c5, rfl, ho5, hb5⟩
   have m6 := m2.newN 100 hb5 ho5
   clear m2
   clear hb5 ho5
   refine ⟨_, rfl, ?_⟩; clear Hz Az; intro Az Hz
   refine hK _ _ ?_; clear hK K
   refine goCh Hz (.move rfl <| .extract rfl rfl <| .extract rfl rfl <| .assign rfl <| .assign rfl <| .nil) ?_
   clear Hz Az; intro Az Hz
   refine wpList_nil ?_
   refine hK1 _ _ ?_; clear hK1; try clear K1
   refine wp_seq_k (fun K2 hK2 => ?_)
   refine wp_region_lit ?_
   refine goCh Hz (.move rfl .nil) ?_
   clear Hz Az; intro Az Hz
   have m15 := m6.freezeN 100 rfl; clear m6
   refine wpList_plain rfl (fun K hK => ?_)
   refine e_call Hz Tryd.func6 rfl rfl rfl rfl (mread_ok msg0 msg0_ok _ _ _ (hT.below m15.below h01) (Nat.le_trans h01 m15.below.size) ((m15.rd (i := 100) rfl).any) (fun _ h => by cases h) (fun _ h => by cases h) (by decide) (by decide)) ?_
   rintro e w16 ⟨q216, q316, q416, e216, e316, e416, rfl, hd16, he16, hf16, hb16⟩
   have m17 := m15.callF3 101 102 103 rfl rfl rfl hb16 hd16 he16 hf16
   clear m15
   clear hb16 hd16 he16 hf16
   refine ⟨_, rfl, ?_⟩; clear Hz Az; intro Az Hz
   refine hK _ _ ?_; clear hK K
   refine goCh Hz (.move rfl <| .extract rfl rfl <| .extract rfl rfl <| .nil) ?_
   clear Hz Az; intro Az Hz
   refine wpList_plain rfl (fun K hK => ?_)
   refine e_alloc Hz m17 104 zc30mkn rfl ?_
   clear Hz Az m17; intro g22 Az w23 Hz m23 hB23 hg23
   clear hB23 hg23
   refine hK _ _ ?_; clear hK K
   refine wpList_plain rfl (fun K hK => ?_)
   refine e_storeW Hz m23 104 rfl rfl rfl rfl rfl sz30mkn ?_
   clear m23; intro w24 m24 hB24
   clear hB24
   refine hK _ _ ?_; clear hK K
   refine goCh Hz (.assign rfl .nil) ?_
   clear Hz Az; intro Az Hz
   refine wpList_nil ?_
   refine hK2 _ _ ?_; clear hK2; try clear K2
   replace Hz : Has 59 [(1, _), (3, _), (4, _), (5, _)] Az := Hz.only [1, 3, 4, 5]
   refine wp_seq_k (fun K3 hK3 => ?_)
   refine wp_region_lit ?_
   refine wpList_plain rfl (fun K hK => ?_)
   refine e_call Hz Tryd.func6 rfl rfl rfl rfl (mread_none _) ?_
   rintro e w27 ⟨rfl, hb27⟩
   have m28 := m24.later hb27
   clear m24
   clear hb27
   refine ⟨_, rfl, ?_⟩; clear Hz Az; intro Az Hz
   refine hK _ _ ?_; clear hK K
   refine goCh Hz (.move rfl <| .extract rfl rfl <| .extract rfl rfl <| .nil) ?_
   clear Hz Az; intro Az Hz
   refine wpList_plain rfl (fun K hK => ?_)
   refine e_alloc Hz m28 105 zc30mkn rfl ?_
   clear Hz Az m28; intro g33 Az w34 Hz m34 hB34 hg34
   clear hB34 hg34
   refine hK _ _ ?_; clear hK K
   refine wpList_plain rfl (fun K hK => ?_)
   refine e_storeW Hz m34 105 rfl rfl rfl rfl rfl sz30mkn ?_
   clear m34; intro w35 m35 hB35
   clear hB35
   refine hK _ _ ?_; clear hK K
   refine goCh Hz (.assign rfl .nil) ?_
   clear Hz Az; intro Az Hz
   refine wpList_nil ?_
   refine hK3 _ _ ?_; clear hK3; try clear K3
   refine wp_seq_k (fun K4 hK4 => ?_)
   refine wp_region_lit ?_
   refine goCh Hz (.buildG rfl zc30mkn ps30mkn rfl .nil) ?_
   clear Hz Az; intro Az Hz
   refine wpList_plain rfl (fun K hK => ?_)
   refine e_call Hz Tryd.func5 rfl rfl rfl rfl (mput_no msgZ msgZ_no _ _ _ _ _ _ _ _ _ (Rd.nilN _ _ .i64 none) (Rd.nilN _ _ .u8 none) (Rd.nilN _ _ .u8 none) (by decide) (fun _ h => by cases h)) ?_
   rintro e w39 ⟨rfl, hb39⟩
   have m40 := m35.later hb39
   clear m35
   clear hb39
   refine ⟨_, rfl, ?_⟩; clear Hz Az; intro Az Hz
   refine hK _ _ ?_; clear hK K
   refine goCh Hz (.move rfl <| .extract rfl rfl <| .extract rfl rfl <| .assign rfl <| .assign rfl <| .nil) ?_
   clear Hz Az; intro Az Hz
   refine wpList_nil ?_
   refine hK4 _ _ ?_; clear hK4; try clear K4
   replace Hz : Has 59 [(1, _), (3, _), (4, _), (5, _), (7, _), (9, _)] Az := Hz.only [1, 3, 4, 5, 7, 9]
   refine wp_seq_k (fun K5 hK5 => ?_)
   refine wp_region_lit ?_
   refine goCh Hz (.move rfl <| .eql rfl rfl <| .move rfl <| .nil) ?_
   clear Hz Az; intro Az Hz
   refine bool_cases Hz (t := 32) rfl ?_ ?_
   rotate_left
   · intro hb _; exact absurd hb (by simp)
   clear Hz; intro _ Hz
   refine goCh Hz (.moveZ rfl <| .eqlZ rfl rfl <| .pickT rfl rfl <| .move rfl <| .nil) ?_
   clear Hz Az; intro Az Hz
   refine bool_cases Hz (t := 36) rfl ?_ ?_
   rotate_left
   · intro hb _; exact absurd hb (by simp)
   clear Hz; intro _ Hz
   refine goCh Hz (.loadBRZ m40 (i := 104) rfl rfl Tryd.underlying30 rfl sz30mkn (by simp) (by dsimp only [List.drop, List.take] <;> rfl) <| .loadBRZ m40 (i := 20) rfl rfl Tryd.underlying30 rfl sz30mkn (by simp) (by dsimp only [List.drop, List.take] <;> rfl) <| .nil) ?_
   clear Hz Az; intro Az Hz
   refine st_ge Hz rfl rfl rfl rfl (fun K hK => ?_)
   refine e_call Hz Tryd.func7 rfl rfl rfl rfl (msame_v msg0 msg0 true (sameB_self _) _ _ _ _ _ _ _ _ _ _ _ _ _ _ _ _ _ ((m40.rd (i := 101) rfl).any) ((m40.rd (i := 102) rfl).any) ((m40.rd (i := 103) rfl).any) (Rd.nilN _ _ .i64 none) (Rd.nilN _ _ .u8 none) (Rd.nilN _ _ .u8 none) (by decide) (fun _ h => by cases h) (fun _ h => by cases h) (fun _ h => by cases h) (fun _ h => by cases h)) ?_
   rintro e w62 ⟨rfl, hb62⟩
   have m63 := m40.later hb62
   clear m40
   clear hb62
   refine ⟨_, rfl, ?_⟩; clear Hz Az; intro Az Hz
   refine hK _ _ ?_; clear hK K
   refine goCh Hz (.pickT rfl rfl <| .move rfl <| .loadBRZ m63 (i := 104) rfl rfl Tryd.underlying30 rfl sz30mkn (by simp) (by dsimp only [List.drop, List.take] <;> rfl) <| .buildGZ rfl zc30mkn ps30mkn rfl <| .nil) ?_
   clear Hz Az; intro Az Hz
   refine st_ge Hz rfl rfl rfl rfl (fun K hK => ?_)
   refine e_call Hz Tryd.func7 rfl rfl rfl rfl (msame_v msg0 msgZ false msg0_ne _ _ _ _ _ _ _ _ _ _ _ _ _ _ _ _ _ ((m63.rd (i := 101) rfl).any) ((m63.rd (i := 102) rfl).any) ((m63.rd (i := 103) rfl).any) (Rd.nilN _ _ .i64 none) (Rd.nilN _ _ .u8 none) (Rd.nilN _ _ .u8 none) (by decide) (fun _ h => by cases h) (fun _ h => by cases h) (fun _ h => by cases h) (fun _ h => by cases h)) ?_
   rintro e w69 ⟨rfl, hb69⟩
   have m70 := m63.later hb69
   clear m63
   clear hb69
   refine ⟨_, rfl, ?_⟩; clear Hz Az; intro Az Hz
   refine hK _ _ ?_; clear hK K
   refine goCh Hz (.notZ rfl <| .pickT rfl rfl <| .move rfl <| .moveZ rfl <| .eqlZ rfl rfl <| .pickT rfl rfl <| .move rfl <| .nil) ?_
   clear Hz Az; intro Az Hz
   refine bool_cases Hz (t := 51) rfl ?_ ?_
   rotate_left
   · intro hb _; exact absurd hb (by simp)
   clear Hz; intro _ Hz
   refine goCh Hz (.moveZ rfl <| .eqlZ rfl rfl <| .pickT rfl rfl <| .move rfl <| .nil) ?_
   clear Hz Az; intro Az Hz
   refine bool_cases Hz (t := 55) rfl ?_ ?_
   rotate_left
   · intro hb _; exact absurd hb (by simp)
   clear Hz; intro _ Hz
   refine goCh Hz (.loadBRZ m70 (i := 20) rfl rfl Tryd.underlying30 rfl sz30mkn (by simp) (by dsimp only [List.drop, List.take] <;> rfl) .nil) ?_
   clear Hz Az; intro Az Hz
   refine st_ge Hz rfl rfl rfl rfl (fun K hK => ?_)
   refine e_call Hz Tryd.func8 rfl rfl rfl rfl (mright_yes msg0 msg0_ok _ _ _ _ _ _ _ _ _ (Rd.nilN _ _ .i64 none) (Rd.nilN _ _ .u8 none) (Rd.nilN _ _ .u8 none) (by decide) (fun _ h => by cases h)) ?_
   rintro e w86 ⟨rfl, hb86⟩
   have m87 := m70.later hb86
   clear m70
   clear hb86
   refine ⟨_, rfl, ?_⟩; clear Hz Az; intro Az Hz
   refine hK _ _ ?_; clear hK K
   refine goCh Hz (.pickT rfl rfl <| .assign rfl <| .nil) ?_
   clear Hz Az; intro Az Hz
   refine wpList_nil ?_
   refine hK5 _ _ ?_; clear hK5; try clear K5
   refine wp_ret ?_
   try dsimp only [Exit.then, Exit.inBlock]
   refine (ret1 (fn := Tryd.f4) Hz rfl rfl ?_)
   exact ⟨rfl, m87.below⟩
 refine wp_region_lit ?_
 refine goCh Hz (.buildG rfl zc30mkn ps30mkn rfl .nil) ?_
 clear Hz Az; intro Az Hz
 refine wpList_plain rfl (fun K hK => ?_)
 refine e_alloc Hz m0 30 zc30mkn rfl ?_
 clear Hz Az m0; intro g92 Az w93 Hz m93 hB93 hg93
 clear hB93 hg93
 refine hK _ _ ?_; clear hK K
 refine wpList_plain rfl (fun K hK => ?_)
 refine e_storeW Hz m93 30 rfl rfl rfl rfl rfl sz30mkn ?_
 clear m93; intro w94 m94 hB94
 clear hB94
 refine hK _ _ ?_; clear hK K
 refine wpList_nil ?_
 show K0 _ _
 exact hC0 _ _ ⟨_, Hz.only [1], m94.ren [(20, 30)] (by decide)⟩
theorem fields_walk (a0 a1 a2 a3 a4 a5 a7 : Int) (ok : Bool) (w0 : World) (hT : TabOk w0) (h01 : 1 ≤ w0.heap.size) (b0 : 0 ≤ a0 ∧ a0 ≤ 255) (b1 : 0 ≤ a1 ∧ a1 ≤ 255) (b2 : 0 ≤ a2 ∧ a2 ≤ 255) (b3 : 0 ≤ a3 ∧ a3 ≤ 255) (b4 : 0 ≤ a4 ∧ a4 < 4294967296) (b5 : 0 ≤ a5 ∧ a5 < 4294967296) (b7 : 0 ≤ a7 ∧ a7 ≤ 255) :
   Calls Tryd.prog 3 #[.int .u8 a0, .int .u8 a1, .int .u8 a2, .int .u8 a3, .int .u32 a4, .int .u32 a5, .bool ok, .int .u8 a7] w0 fun e w' => e = .returned (.bool true) ∧ Below w0.heap.size w0 w' := by
 obtain ⟨kq, hkq, hk0, hk1⟩ := tmB (x := a0) (d := 9) b0.1 (by decide)
 obtain ⟨gq, hgq, hg0, hg1⟩ := tmB (x := a1) (d := 8) b1.1 (by decide)
 obtain ⟨fq, hfq, hf0, hf1⟩ := tmB (x := a2) (d := 7) b2.1 (by decide)
 obtain ⟨tq, htq, hq0, hq1⟩ := tmB (x := a3) (d := 7) b3.1 (by decide)
 obtain ⟨k, hkk⟩ : ∃ k, k = kq + 1 := ⟨_, rfl⟩
 refine enter (fn := Tryd.f3) Tryd.func3 rfl Tryd.ntmps3 rfl (fun Az Hz => ?_)
 simp only [List.zipIdx_cons, List.zipIdx_nil, List.map_cons, List.map_nil, Nat.reduceAdd, Nat.zero_add] at Hz
 have m0 := MemOk.start (fun _ => False) w0
 refine regS Hz (.assign rfl <| .nil) ?_
 clear Hz Az; intro Az Hz
 refine wp_seq_k (fun K0 hK0 => ?_)
 refine wp_seq_k (fun K1 hK1 => ?_)
 refine wp_region_lit ?_
 refine wpList_plain rfl (fun K hK => ?_)
 refine e_call Hz Tryd.func4 rfl rfl rfl rfl (known_x _ (hT.below m0.below h01) (Nat.le_trans h01 m0.below.size)) ?_
 rintro e w2 ⟨rfl, hb2⟩
 have m3 := m0.later hb2
 clear m0
 clear hb2
 refine ⟨_, rfl, ?_⟩; clear Hz Az; intro Az Hz
 refine hK _ _ ?_; clear hK K
 refine goCh Hz (.not rfl .nil) ?_
 clear Hz Az; intro Az Hz
 refine wpList_nil ?_
 refine hK1 _ _ ?_; clear hK1; try clear K1
 refine wp_cond_false (Hz.ev (x := .tmp 26) rfl) ?_
 refine wp_skip ?_
 refine hK0 _ _ ?_; clear hK0; try clear K0
 refine wp_seq_k (fun K2 hK2 => ?_)
 refine wp_region_lit ?_
 refine goCh Hz (.move rfl <| .rem rfl rfl (by decide) (r := kq) hkq <| .conv rfl Tryd.underlying5 Tryd.underlying3 (r := kq) (IntWalk.i64_in _ (by omega)) <| .add rfl rfl (r := k) (by rw [hkk]; exact IntWalk.i64_in _ (by omega)) <| .move rfl <| .rem rfl rfl (by decide) (r := gq) hgq <| .conv rfl Tryd.underlying5 Tryd.underlying3 (r := gq) (IntWalk.i64_in _ (by omega)) <| .move rfl <| .rem rfl rfl (by decide) (r := fq) hfq <| .conv rfl Tryd.underlying5 Tryd.underlying3 (r := fq) (IntWalk.i64_in _ (by omega)) <| .move rfl <| .rem rfl rfl (by decide) (r := tq) htq <| .conv rfl Tryd.underlying5 Tryd.underlying3 (r := tq) (IntWalk.i64_in _ (by omega)) <| .buildG rfl zc30mfi ps30mfi rfl <| .nil) ?_
 clear Hz Az; intro Az Hz
 refine wpList_plain rfl (fun K hK => ?_)
 refine e_alloc Hz m3 30 zc30mfi rfl ?_
 clear Hz Az m3; intro g34 Az w35 Hz m35 hB35 hg35
 clear hB35 hg35
 refine hK _ _ ?_; clear hK K
 refine wpList_plain rfl (fun K hK => ?_)
 refine e_storeW Hz m35 30 rfl rfl rfl rfl rfl sz30mfi ?_
 clear m35; intro w36 m36 hB36
 clear hB36
 refine hK _ _ ?_; clear hK K
 refine wpList_nil ?_
 refine hK2 _ _ ?_; clear hK2; try clear K2
 refine wp_seq_k (fun K3 hK3 => ?_)
 have hC3 : ∀ (a : Act) (w : World), (∃ (Bm : Nat) (te : Int), (k ≤ 7 → te = a4) ∧ (7 < k → te = 0) ∧ Has 148 [(0, .int .u8 a0), (1, .int .u8 a1), (2, .int .u8 a2), (3, .int .u8 a3), (4, .int .u32 a4), (5, .int .u32 a5), (6, .bool ok), (7, .int .u8 a7), (17, .pointer (some ⟨Bm, 0, none⟩))] a ∧ MemOk (cx (fun _ => False) w0) w0 [(20, .box Bm 30 [.int .i64 k, .int .i64 gq, .int .i64 fq, .int .i64 tq, .int .i64 te, .int .i64 0, .int .i64 0, .int .i64 0, .bool false, .slice none 0 0, .int .i64 0, .int .i64 0, .slice none 0 0, .slice none 0 0, .slice none 0 0, .int .i64 0, .int .i64 0, .int .i64 0, .int .i64 0])] w) → K3 a w := by
   clear Hz m36
   rintro Az w37 ⟨Bm, te, ht1, ht2, Hz, m37⟩
   refine hK3 _ _ ?_; clear hK3; try clear K3
   refine wp_seq_k (fun K4 hK4 => ?_)
   have hC4 : ∀ (a : Act) (w : World), (∃ (Bm : Nat) (m : MV) (pe p2 p3 p4 : Option Addr) (c2 c3 c4 : Nat), msgR m = true ∧ BytesL m.bd ∧ BytesL m.da ∧ m.bd.length ≤ 1000 ∧ m.da.length ≤ 1000 ∧ Has 148 [(17, .pointer (some ⟨Bm, 0, none⟩))] a ∧ MemOk (cx (fun _ => False) w0) w0 [(20, .box Bm 30 [.int .i64 m.k, .int .i64 m.g, .int .i64 m.f, .int .i64 m.t, .int .i64 m.n.te, .int .i64 m.n.ix, .int .i64 m.n.lt, .int .i64 m.n.co, .bool m.n.ok, .slice pe 0 0, .int .i64 m.bi, .int .i64 m.bt, .slice p2 m.cf.length c2, .slice p3 m.bd.length c3, .slice p4 m.da.length c4, .int .i64 m.n.vo, .int .i64 m.n.ch, .int .i64 m.n.ma, .int .i64 m.n.fl]), (2, .dat (.slice p2 m.cf.length c2) (.ns .i64 m.cf)), (3, .dat (.slice p3 m.bd.length c3) (.ns .u8 m.bd)), (4, .dat (.slice p4 m.da.length c4) (.ns .u8 m.da))] w) → K4 a w := by
     clear Hz m37
     rintro Az w38 ⟨Bm, m, pe, p2, p3, p4, c2, c3, c4, hR, hbb, hda, hl3, hl4, Hz, m38⟩
     refine hK4 _ _ ?_; clear hK4; try clear K4
     refine wp_seq_k (fun K5 hK5 => ?_)
     refine wp_region_lit ?_
     refine goCh Hz (.loadBR m38 (i := 20) rfl rfl Tryd.underlying30 rfl sz30mfi (by simp) (by dsimp only [List.drop, List.take] <;> rfl) .nil) ?_
     clear Hz Az; intro Az Hz
     refine wpList_plain rfl (fun K hK => ?_)
     refine e_call Hz Tryd.func5 rfl rfl rfl rfl (mput_yes m hR _ _ _ _ _ _ _ _ _ (hT.below m38.below h01) (Nat.le_trans h01 m38.below.size) ((m38.rd (i := 2) rfl).any) ((m38.rd (i := 3) rfl).any) ((m38.rd (i := 4) rfl).any) (cf900 (m := m) hR) hbb hda hl3 hl4) ?_
     rintro e w41 ⟨p41, c41, rfl, ho41, hb41⟩
     have m42 := m38.newN 200 hb41 ho41
     clear m38
     clear hb41 ho41
     refine ⟨_, rfl, ?_⟩; clear Hz Az; intro Az Hz
     refine hK _ _ ?_; clear hK K
     refine goCh Hz (.move rfl <| .extract rfl rfl <| .extract rfl rfl <| .assign rfl <| .assign rfl <| .nil) ?_
     clear Hz Az; intro Az Hz
     refine wpList_nil ?_
     refine hK5 _ _ ?_; clear hK5; try clear K5
     refine wp_seq_k (fun K6 hK6 => ?_)
     refine wp_region_lit ?_
     refine goCh Hz (.move rfl .nil) ?_
     clear Hz Az; intro Az Hz
     have m51 := m42.freezeN 200 rfl; clear m42
     refine wpList_plain rfl (fun K hK => ?_)
     refine e_call Hz Tryd.func6 rfl rfl rfl rfl (mread_ok m hR _ _ _ (hT.below m51.below h01) (Nat.le_trans h01 m51.below.size) ((m51.rd (i := 200) rfl).any) hbb hda hl3 hl4) ?_
     rintro e w52 ⟨q252, q352, q452, e252, e352, e452, rfl, hd52, he52, hf52, hb52⟩
     have m53 := m51.callF3 201 202 203 rfl rfl rfl hb52 hd52 he52 hf52
     clear m51
     clear hb52 hd52 he52 hf52
     refine ⟨_, rfl, ?_⟩; clear Hz Az; intro Az Hz
     refine hK _ _ ?_; clear hK K
     refine goCh Hz (.move rfl <| .extract rfl rfl <| .extract rfl rfl <| .nil) ?_
     clear Hz Az; intro Az Hz
     refine wpList_plain rfl (fun K hK => ?_)
     refine e_alloc Hz m53 204 zc30mfi rfl ?_
     clear Hz Az m53; intro g58 Az w59 Hz m59 hB59 hg59
     clear hB59 hg59
     refine hK _ _ ?_; clear hK K
     refine wpList_plain rfl (fun K hK => ?_)
     refine e_storeW Hz m59 204 rfl rfl rfl rfl rfl sz30mfi ?_
     clear m59; intro w60 m60 hB60
     clear hB60
     refine hK _ _ ?_; clear hK K
     refine goCh Hz (.assign rfl .nil) ?_
     clear Hz Az; intro Az Hz
     refine wpList_nil ?_
     refine hK6 _ _ ?_; clear hK6; try clear K6
     refine wp_seq_k (fun K7 hK7 => ?_)
     replace Hz : Has 148 [(17, _), (19, _), (20, _), (21, _)] Az := Hz.only [17, 19, 20, 21]
     refine wp_seq_k (fun K8 hK8 => ?_)
     refine wp_region_lit ?_
     refine goCh Hz (.move rfl <| .neq rfl rfl <| .move rfl <| .nil) ?_
     clear Hz Az; intro Az Hz
     refine bool_cases Hz (t := 113) rfl ?_ ?_
     · intro hb _; exact absurd hb (by simp)
     clear Hz; intro _ Hz
     refine goCh Hz (.moveZ rfl <| .neqZ rfl rfl <| .pickF rfl rfl <| .move rfl <| .nil) ?_
     clear Hz Az; intro Az Hz
     refine bool_cases Hz (t := 117) rfl ?_ ?_
     · intro hb _; exact absurd hb (by simp)
     clear Hz; intro _ Hz
     refine goCh Hz (.loadBRZ m60 (i := 204) rfl rfl Tryd.underlying30 rfl sz30mfi (by simp) (by dsimp only [List.drop, List.take] <;> rfl) <| .loadBRZ m60 (i := 20) rfl rfl Tryd.underlying30 rfl sz30mfi (by simp) (by dsimp only [List.drop, List.take] <;> rfl) <| .nil) ?_
     clear Hz Az; intro Az Hz
     refine st_ge Hz rfl rfl rfl rfl (fun K hK => ?_)
     refine e_call Hz Tryd.func7 rfl rfl rfl rfl (msame_v m m true (sameB_self _) _ _ _ _ _ _ _ _ _ _ _ _ _ _ _ _ _ ((m60.rd (i := 201) rfl).any) ((m60.rd (i := 202) rfl).any) ((m60.rd (i := 203) rfl).any) ((m60.rd (i := 2) rfl).any) ((m60.rd (i := 3) rfl).any) ((m60.rd (i := 4) rfl).any) (cf900 (m := m) hR) hbb hbb hda hda) ?_
     rintro e w77 ⟨rfl, hb77⟩
     have m78 := m60.later hb77
     clear m60
     clear hb77
     refine ⟨_, rfl, ?_⟩; clear Hz Az; intro Az Hz
     refine hK _ _ ?_; clear hK K
     refine goCh Hz (.notZ rfl <| .pickF rfl rfl <| .nil) ?_
     clear Hz Az; intro Az Hz
     refine wpList_nil ?_
     refine hK8 _ _ ?_; clear hK8; try clear K8
     refine wp_cond_false (Hz.ev (x := .tmp 122) rfl) ?_
     refine wp_skip ?_
     refine hK7 _ _ ?_; clear hK7; try clear K7
     replace Hz : Has 148 [(17, _), (113, _), (117, _)] Az := Hz.only [17, 113, 117]
     refine wp_seq_k (fun K9 hK9 => ?_)
     refine wp_region_lit ?_
     refine goCh Hz (.loadBR m78 (i := 20) rfl rfl Tryd.underlying30 rfl sz30mfi (by simp) (by dsimp only [List.drop, List.take] <;> rfl) .nil) ?_
     clear Hz Az; intro Az Hz
     refine wpList_plain rfl (fun K hK => ?_)
     refine e_alloc Hz m78 205 zc30mfi rfl ?_
     clear Hz Az m78; intro g85 Az w86 Hz m86 hB86 hg86
     clear hB86 hg86
     refine hK _ _ ?_; clear hK K
     refine wpList_plain rfl (fun K hK => ?_)
     refine e_storeW Hz m86 205 rfl rfl rfl rfl rfl sz30mfi ?_
     clear m86; intro w87 m87 hB87
     clear hB87
     refine hK _ _ ?_; clear hK K
     refine wpList_nil ?_
     refine hK9 _ _ ?_; clear hK9; try clear K9
     refine wp_seq_k (fun K10 hK10 => ?_)
     refine regS Hz (.fieldAddr (off := 0) rfl Tryd.underlying30 rfl (s := 0) (by kernel_rfl) rfl <| .loadB1 m87 (i := 20) rfl rfl rfl Tryd.underlying3 rfl <| .eql rfl rfl <| .nil) ?_
     clear Hz Az; intro Az Hz
     refine bool_cases Hz (t := 126) rfl ?_ ?_
     ·
      clear Hz; intro hb91 Hz
      try simp only [Q1x, Q2x, Q3x, Q4x, Q5x, Q6x, Q7x, Q8x, Q9x, Q0x, Qax, Qbx] at hb91
      have hk8 : m.k = 8 := by have := hb91; first | omega | (simp at this; omega)
      refine wp_cond_true (Hz.ev (x := .tmp 126) rfl) ?_
      refine wp_region_lit ?_
      refine goCh Hz (.fieldAddr (off := 4) rfl Tryd.underlying30 rfl (s := 0) (by kernel_rfl) rfl .nil) ?_
      clear Hz Az; intro Az Hz
      refine wpList_plain rfl (fun K hK => ?_)
      refine e_store1 Hz m87 205 rfl rfl rfl rfl rfl sz3mfi (by dsimp only [List.set] <;> rfl) ?_
      clear m87; intro w93 m93 hB93
      clear hB93
      refine hK _ _ ?_; clear hK K
      refine wpList_nil ?_
      refine hK10 _ _ ?_; clear hK10; try clear K10
      refine wp_seq_k (fun K11 hK11 => ?_)
      refine wp_region_lit ?_
      refine goCh Hz (.loadBR m93 (i := 205) rfl rfl Tryd.underlying30 rfl sz30mfi (by simp) (by dsimp only [List.drop, List.take] <;> rfl) .nil) ?_
      clear Hz Az; intro Az Hz
      refine wpList_plain rfl (fun K hK => ?_)
      refine e_call Hz Tryd.func5 rfl rfl rfl rfl (mput_no (y8 m) (y8_no hR hk8) _ _ _ _ _ _ _ _ _ ((m93.rd (i := 2) rfl).any) ((m93.rd (i := 3) rfl).any) ((m93.rd (i := 4) rfl).any) (cf900 (m := m) hR) hbb) ?_
      rintro e w96 ⟨rfl, hb96⟩
      have m97 := m93.later hb96
      clear m93
      clear hb96
      refine ⟨_, rfl, ?_⟩; clear Hz Az; intro Az Hz
      refine hK _ _ ?_; clear hK K
      refine goCh Hz (.move rfl <| .extract rfl rfl <| .extract rfl rfl <| .assign rfl <| .assign rfl <| .nil) ?_
      clear Hz Az; intro Az Hz
      refine wpList_nil ?_
      refine hK11 _ _ ?_; clear hK11; try clear K11
      replace Hz : Has 148 [(17, _), (113, _), (117, _), (22, _), (24, _)] Az := Hz.only [17, 113, 117, 22, 24]
      refine wp_seq_k (fun K12 hK12 => ?_)
      refine wp_region_lit ?_
      refine goCh Hz (.move rfl <| .eql rfl rfl <| .move rfl <| .nil) ?_
      clear Hz Az; intro Az Hz
      refine bool_cases Hz (t := 137) rfl ?_ ?_
      rotate_left
      · intro hb _; exact absurd hb (by simp)
      clear Hz; intro _ Hz
      refine goCh Hz (.loadBRZ m97 (i := 205) rfl rfl Tryd.underlying30 rfl sz30mfi (by simp) (by dsimp only [List.drop, List.take] <;> rfl) .nil) ?_
      clear Hz Az; intro Az Hz
      refine st_ge Hz rfl rfl rfl rfl (fun K hK => ?_)
      refine e_call Hz Tryd.func8 rfl rfl rfl rfl (mright_no (y8 m) (y8_no hR hk8) _ _ _ _ _ _ _ _ _ ((m97.rd (i := 2) rfl).any) ((m97.rd (i := 3) rfl).any) ((m97.rd (i := 4) rfl).any) (cf900 (m := m) hR) hbb) ?_
      rintro e w113 ⟨rfl, hb113⟩
      have m114 := m97.later hb113
      clear m97
      clear hb113
      refine ⟨_, rfl, ?_⟩; clear Hz Az; intro Az Hz
      refine hK _ _ ?_; clear hK K
      refine goCh Hz (.notZ rfl <| .pickT rfl rfl <| .move rfl <| .loadBRZ m114 (i := 20) rfl rfl Tryd.underlying30 rfl sz30mfi (by simp) (by dsimp only [List.drop, List.take] <;> rfl) <| .loadBRZ m114 (i := 205) rfl rfl Tryd.underlying30 rfl sz30mfi (by simp) (by dsimp only [List.drop, List.take] <;> rfl) <| .nil) ?_
      clear Hz Az; intro Az Hz
      refine st_ge Hz rfl rfl rfl rfl (fun K hK => ?_)
      refine e_call Hz Tryd.func7 rfl rfl rfl rfl (msame_v m (y8 m) false (y8_ne hR hk8) _ _ _ _ _ _ _ _ _ _ _ _ _ _ _ _ _ ((m114.rd (i := 2) rfl).any) ((m114.rd (i := 3) rfl).any) ((m114.rd (i := 4) rfl).any) ((m114.rd (i := 2) rfl).any) ((m114.rd (i := 3) rfl).any) ((m114.rd (i := 4) rfl).any) (cf900 (m := m) hR) hbb hbb hda hda) ?_
      rintro e w121 ⟨rfl, hb121⟩
      have m122 := m114.later hb121
      clear m114
      clear hb121
      refine ⟨_, rfl, ?_⟩; clear Hz Az; intro Az Hz
      refine hK _ _ ?_; clear hK K
      refine goCh Hz (.notZ rfl <| .pickT rfl rfl <| .assign rfl <| .nil) ?_
      clear Hz Az; intro Az Hz
      refine wpList_nil ?_
      refine hK12 _ _ ?_; clear hK12; try clear K12
      refine wp_ret ?_
      try dsimp only [Exit.then, Exit.inBlock]
      refine (ret1 (fn := Tryd.f3) Hz rfl rfl ?_)
      exact ⟨rfl, m122.below⟩
     ·
      clear Hz; intro hb91 Hz
      try simp only [Q1x, Q2x, Q3x, Q4x, Q5x, Q6x, Q7x, Q8x, Q9x, Q0x, Qax, Qbx] at hb91
      have hk8 : ¬ m.k = 8 := by have := hb91; first | omega | (simp at this; omega)
      refine wp_cond_false (Hz.ev (x := .tmp 126) rfl) ?_
      refine wp_region_lit ?_
      refine wpList_plain rfl (fun K hK => ?_)
      refine e_litN Hz m87 206 (k := .u8) rfl rfl Tryd.underlying26 inf5mfi rfl rfl rfl rfl ?_
      clear Hz Az m87; intro g127 Az w128 Hz m128
      refine hK _ _ ?_; clear hK K
      refine goCh Hz (.fieldAddr (off := 14) rfl Tryd.underlying30 rfl (s := 0) (by kernel_rfl) rfl .nil) ?_
      clear Hz Az; intro Az Hz
      refine wpList_plain rfl (fun K hK => ?_)
      refine e_store1 Hz m128 205 rfl rfl rfl rfl rfl sz26mfi (by dsimp only [List.set] <;> rfl) ?_
      clear m128; intro w130 m130 hB130
      clear hB130
      refine hK _ _ ?_; clear hK K
      refine wpList_nil ?_
      refine hK10 _ _ ?_; clear hK10; try clear K10
      replace Hz : Has 148 [(17, _), (113, _), (117, _), (22, _)] Az := Hz.only [17, 113, 117, 22]
      refine wp_seq_k (fun K13 hK13 => ?_)
      refine wp_region_lit ?_
      refine goCh Hz (.loadBR m130 (i := 205) rfl rfl Tryd.underlying30 rfl sz30mfi (by simp) (by dsimp only [List.drop, List.take] <;> rfl) .nil) ?_
      clear Hz Az; intro Az Hz
      have m134 := m130.freezeN 206 rfl; clear m130
      refine wpList_plain rfl (fun K hK => ?_)
      refine e_call Hz Tryd.func5 rfl rfl rfl rfl (mput_no (yd m) (yd_no hR hk8) _ _ _ _ _ _ _ _ _ ((m134.rd (i := 2) rfl).any) ((m134.rd (i := 3) rfl).any) ((m134.rd (i := 206) rfl).any) (cf900 (m := m) hR) hbb) ?_
      rintro e w135 ⟨rfl, hb135⟩
      have m136 := m134.later hb135
      clear m134
      clear hb135
      refine ⟨_, rfl, ?_⟩; clear Hz Az; intro Az Hz
      refine hK _ _ ?_; clear hK K
      refine goCh Hz (.move rfl <| .extract rfl rfl <| .extract rfl rfl <| .assign rfl <| .assign rfl <| .nil) ?_
      clear Hz Az; intro Az Hz
      refine wpList_nil ?_
      refine hK13 _ _ ?_; clear hK13; try clear K13
      replace Hz : Has 148 [(17, _), (113, _), (117, _), (22, _), (24, _)] Az := Hz.only [17, 113, 117, 22, 24]
      refine wp_seq_k (fun K14 hK14 => ?_)
      refine wp_region_lit ?_
      refine goCh Hz (.move rfl <| .eql rfl rfl <| .move rfl <| .nil) ?_
      clear Hz Az; intro Az Hz
      refine bool_cases Hz (t := 137) rfl ?_ ?_
      rotate_left
      · intro hb _; exact absurd hb (by simp)
      clear Hz; intro _ Hz
      refine goCh Hz (.loadBRZ m136 (i := 205) rfl rfl Tryd.underlying30 rfl sz30mfi (by simp) (by dsimp only [List.drop, List.take] <;> rfl) .nil) ?_
      clear Hz Az; intro Az Hz
      refine st_ge Hz rfl rfl rfl rfl (fun K hK => ?_)
      refine e_call Hz Tryd.func8 rfl rfl rfl rfl (mright_no (yd m) (yd_no hR hk8) _ _ _ _ _ _ _ _ _ ((m136.rd (i := 2) rfl).any) ((m136.rd (i := 3) rfl).any) ((m136.rd (i := 206) rfl).any) (cf900 (m := m) hR) hbb) ?_
      rintro e w152 ⟨rfl, hb152⟩
      have m153 := m136.later hb152
      clear m136
      clear hb152
      refine ⟨_, rfl, ?_⟩; clear Hz Az; intro Az Hz
      refine hK _ _ ?_; clear hK K
      refine goCh Hz (.notZ rfl <| .pickT rfl rfl <| .move rfl <| .loadBRZ m153 (i := 20) rfl rfl Tryd.underlying30 rfl sz30mfi (by simp) (by dsimp only [List.drop, List.take] <;> rfl) <| .loadBRZ m153 (i := 205) rfl rfl Tryd.underlying30 rfl sz30mfi (by simp) (by dsimp only [List.drop, List.take] <;> rfl) <| .nil) ?_
      clear Hz Az; intro Az Hz
      refine st_ge Hz rfl rfl rfl rfl (fun K hK => ?_)
      refine e_call Hz Tryd.func7 rfl rfl rfl rfl (msame_v m (yd m) false (yd_ne hR hk8) _ _ _ _ _ _ _ _ _ _ _ _ _ _ _ _ _ ((m153.rd (i := 2) rfl).any) ((m153.rd (i := 3) rfl).any) ((m153.rd (i := 4) rfl).any) ((m153.rd (i := 2) rfl).any) ((m153.rd (i := 3) rfl).any) ((m153.rd (i := 206) rfl).any) (cf900 (m := m) hR) hbb hbb hda (fun x hx => by simp only [yd, List.mem_cons, List.not_mem_nil, or_false] at hx; omega)) ?_
      rintro e w160 ⟨rfl, hb160⟩
      have m161 := m153.later hb160
      clear m153
      clear hb160
      refine ⟨_, rfl, ?_⟩; clear Hz Az; intro Az Hz
      refine hK _ _ ?_; clear hK K
      refine goCh Hz (.notZ rfl <| .pickT rfl rfl <| .assign rfl <| .nil) ?_
      clear Hz Az; intro Az Hz
      refine wpList_nil ?_
      refine hK14 _ _ ?_; clear hK14; try clear K14
      refine wp_ret ?_
      try dsimp only [Exit.then, Exit.inBlock]
      refine (ret1 (fn := Tryd.f3) Hz rfl rfl ?_)
      exact ⟨rfl, m161.below⟩
   refine regS Hz (.fieldAddr (off := 0) rfl Tryd.underlying30 rfl (s := 0) (by kernel_rfl) rfl <| .loadB1 m37 (i := 20) rfl rfl rfl Tryd.underlying3 rfl <| .nil) ?_
   clear Hz Az; intro Az Hz
   refine wp_block ?_
   refine wp_seq_k (fun K15 hK15 => ?_)
   refine regS Hz (.eql rfl rfl <| .assign rfl <| .nil) ?_
   clear Hz Az; intro Az Hz
   refine bool_cases Hz (t := 49) rfl ?_ ?_
   ·
    clear Hz; intro hb170 Hz
    try simp only [Q1x, Q2x, Q3x, Q4x, Q5x, Q6x, Q7x, Q8x, Q9x, Q0x, Qax, Qbx] at hb170
    have hk1 : k = 1 := by have := hb170; first | omega | (simp at this; omega)
    refine wp_cond_true (Hz.ev (x := .tmp 49) rfl) ?_
    refine wp_skip ?_
    refine hK15 _ _ ?_; clear hK15; try clear K15
    refine wp_cond_true (Hz.ev (x := .tmp 49) rfl) ?_
    replace Hz : Has 148 [(1, _), (4, _), (5, _), (6, _), (7, _), (17, _), (48, _)] Az := Hz.only [1, 4, 5, 6, 7, 17, 48]
    refine wp_region_lit ?_
    refine goCh Hz (.move rfl <| .conv rfl Tryd.underlying22 Tryd.underlying3 (r := a5) (IntWalk.i64_in _ (by omega)) <| .move rfl <| .conv rfl Tryd.underlying22 Tryd.underlying3 (r := a4) (IntWalk.i64_in _ (by omega)) <| .quo rfl rfl (by decide) (r := a4 / 2) (by rw [Int.tdiv_eq_ediv_of_nonneg (by omega), IntWalk.i64_in _ (by omega)]) <| .fieldAddr (off := 5) rfl Tryd.underlying30 rfl (s := 0) (by kernel_rfl) rfl <| .nil) ?_
    clear Hz Az; intro Az Hz
    refine wpList_plain rfl (fun K hK => ?_)
    refine e_store1 Hz m37 20 rfl rfl rfl rfl rfl sz3mfi (by dsimp only [List.set] <;> rfl) ?_
    clear m37; intro w178 m178 hB178
    clear hB178
    refine hK _ _ ?_; clear hK K
    refine goCh Hz (.fieldAddr (off := 6) rfl Tryd.underlying30 rfl (s := 0) (by kernel_rfl) rfl .nil) ?_
    clear Hz Az; intro Az Hz
    refine wpList_plain rfl (fun K hK => ?_)
    refine e_store1 Hz m178 20 rfl rfl rfl rfl rfl sz3mfi (by dsimp only [List.set] <;> rfl) ?_
    clear m178; intro w180 m180 hB180
    clear hB180
    refine hK _ _ ?_; clear hK K
    refine wpList_nil ?_
    have m181 := m180.dat 62 rfl (Rd.nilN _ _ .i64 none); clear m180
    have m182 := m181.dat 63 rfl (Rd.nilN _ _ .u8 none); clear m181
    have m183 := m182.dat 64 rfl (Rd.nilN _ _ .u8 none); clear m182
    obtain rfl : te = a4 := ht1 (by omega)
    show K4 _ _
    exact hC4 _ _ ⟨_, _, _, _, _, _, _, _, _, msgOkA ⟨hg0, hg1⟩ ⟨hf0, hf1⟩ ⟨hq0, hq1⟩ (te := te) (ix := a5) (lt := te / 2) (by omega) (by omega) (by omega) (by omega), (fun x hx => by cases hx), (fun x hx => by cases hx), (by simp), (by simp), Hz.only [17], m183.ren [(20, 20), (2, 62), (3, 63), (4, 64)] (by decide)⟩
   ·
    clear Hz; intro hb170 Hz
    try simp only [Q1x, Q2x, Q3x, Q4x, Q5x, Q6x, Q7x, Q8x, Q9x, Q0x, Qax, Qbx] at hb170
    have hk1 : ¬ k = 1 := by have := hb170; first | omega | (simp at this; omega)
    refine wp_cond_false (Hz.ev (x := .tmp 49) rfl) ?_
    refine regS Hz (.eql rfl rfl <| .assign rfl <| .nil) ?_
    clear Hz Az; intro Az Hz
    refine bool_cases Hz (t := 49) rfl ?_ ?_
    ·
     clear Hz; intro hb186 Hz
     try simp only [Q1x, Q2x, Q3x, Q4x, Q5x, Q6x, Q7x, Q8x, Q9x, Q0x, Qax, Qbx] at hb186
     have hk3 : k = 3 := by have := hb186; first | omega | (simp at this; omega)
     refine wp_cond_true (Hz.ev (x := .tmp 49) rfl) ?_
     refine wp_skip ?_
     refine hK15 _ _ ?_; clear hK15; try clear K15
     refine wp_cond_true (Hz.ev (x := .tmp 49) rfl) ?_
     replace Hz : Has 148 [(1, _), (4, _), (5, _), (6, _), (7, _), (17, _), (48, _)] Az := Hz.only [1, 4, 5, 6, 7, 17, 48]
     refine wp_region_lit ?_
     refine goCh Hz (.move rfl <| .conv rfl Tryd.underlying22 Tryd.underlying3 (r := a5) (IntWalk.i64_in _ (by omega)) <| .move rfl <| .conv rfl Tryd.underlying22 Tryd.underlying3 (r := a4) (IntWalk.i64_in _ (by omega)) <| .quo rfl rfl (by decide) (r := a4 / 2) (by rw [Int.tdiv_eq_ediv_of_nonneg (by omega), IntWalk.i64_in _ (by omega)]) <| .fieldAddr (off := 5) rfl Tryd.underlying30 rfl (s := 0) (by kernel_rfl) rfl <| .nil) ?_
     clear Hz Az; intro Az Hz
     refine wpList_plain rfl (fun K hK => ?_)
     refine e_store1 Hz m37 20 rfl rfl rfl rfl rfl sz3mfi (by dsimp only [List.set] <;> rfl) ?_
     clear m37; intro w194 m194 hB194
     clear hB194
     refine hK _ _ ?_; clear hK K
     refine goCh Hz (.fieldAddr (off := 6) rfl Tryd.underlying30 rfl (s := 0) (by kernel_rfl) rfl .nil) ?_
     clear Hz Az; intro Az Hz
     refine wpList_plain rfl (fun K hK => ?_)
     refine e_store1 Hz m194 20 rfl rfl rfl rfl rfl sz3mfi (by dsimp only [List.set] <;> rfl) ?_
     clear m194; intro w196 m196 hB196
     clear hB196
     refine hK _ _ ?_; clear hK K
     refine wpList_nil ?_
     have m197 := m196.dat 62 rfl (Rd.nilN _ _ .i64 none); clear m196
     have m198 := m197.dat 63 rfl (Rd.nilN _ _ .u8 none); clear m197
     have m199 := m198.dat 64 rfl (Rd.nilN _ _ .u8 none); clear m198
     obtain rfl : te = a4 := ht1 (by omega)
     show K4 _ _
     exact hC4 _ _ ⟨_, _, _, _, _, _, _, _, _, msgOkA ⟨hg0, hg1⟩ ⟨hf0, hf1⟩ ⟨hq0, hq1⟩ (te := te) (ix := a5) (lt := te / 2) (by omega) (by omega) (by omega) (by omega), (fun x hx => by cases hx), (fun x hx => by cases hx), (by simp), (by simp), Hz.only [17], m199.ren [(20, 20), (2, 62), (3, 63), (4, 64)] (by decide)⟩
    ·
     clear Hz; intro hb186 Hz
     try simp only [Q1x, Q2x, Q3x, Q4x, Q5x, Q6x, Q7x, Q8x, Q9x, Q0x, Qax, Qbx] at hb186
     have hk3 : ¬ k = 3 := by have := hb186; first | omega | (simp at this; omega)
     refine wp_cond_false (Hz.ev (x := .tmp 49) rfl) ?_
     replace Hz : Has 148 [(1, _), (4, _), (5, _), (6, _), (7, _), (17, _), (48, _), (49, _)] Az := Hz.only [1, 4, 5, 6, 7, 17, 48, 49]
     refine wp_region_lit ?_
     refine goCh Hz (.eql rfl rfl <| .assign rfl <| .nil) ?_
     clear Hz Az; intro Az Hz
     refine wpList_nil ?_
     refine hK15 _ _ ?_; clear hK15; try clear K15
     refine bool_cases Hz (t := 49) rfl ?_ ?_
     ·
      clear Hz; intro hb203 Hz
      try simp only [Q1x, Q2x, Q3x, Q4x, Q5x, Q6x, Q7x, Q8x, Q9x, Q0x, Qax, Qbx] at hb203
      have hk5 : k = 5 := by have := hb203; first | omega | (simp at this; omega)
      refine wp_cond_true (Hz.ev (x := .tmp 49) rfl) ?_
      refine wp_region_lit ?_
      refine goCh Hz (.move rfl <| .conv rfl Tryd.underlying22 Tryd.underlying3 (r := a5) (IntWalk.i64_in _ (by omega)) <| .move rfl <| .conv rfl Tryd.underlying22 Tryd.underlying3 (r := a4) (IntWalk.i64_in _ (by omega)) <| .quo rfl rfl (by decide) (r := a4 / 2) (by rw [Int.tdiv_eq_ediv_of_nonneg (by omega), IntWalk.i64_in _ (by omega)]) <| .fieldAddr (off := 5) rfl Tryd.underlying30 rfl (s := 0) (by kernel_rfl) rfl <| .nil) ?_
      clear Hz Az; intro Az Hz
      refine wpList_plain rfl (fun K hK => ?_)
      refine e_store1 Hz m37 20 rfl rfl rfl rfl rfl sz3mfi (by dsimp only [List.set] <;> rfl) ?_
      clear m37; intro w210 m210 hB210
      clear hB210
      refine hK _ _ ?_; clear hK K
      refine goCh Hz (.fieldAddr (off := 6) rfl Tryd.underlying30 rfl (s := 0) (by kernel_rfl) rfl .nil) ?_
      clear Hz Az; intro Az Hz
      refine wpList_plain rfl (fun K hK => ?_)
      refine e_store1 Hz m210 20 rfl rfl rfl rfl rfl sz3mfi (by dsimp only [List.set] <;> rfl) ?_
      clear m210; intro w212 m212 hB212
      clear hB212
      refine hK _ _ ?_; clear hK K
      refine wpList_nil ?_
      have m213 := m212.dat 62 rfl (Rd.nilN _ _ .i64 none); clear m212
      have m214 := m213.dat 63 rfl (Rd.nilN _ _ .u8 none); clear m213
      have m215 := m214.dat 64 rfl (Rd.nilN _ _ .u8 none); clear m214
      obtain rfl : te = a4 := ht1 (by omega)
      show K4 _ _
      exact hC4 _ _ ⟨_, _, _, _, _, _, _, _, _, msgOkA ⟨hg0, hg1⟩ ⟨hf0, hf1⟩ ⟨hq0, hq1⟩ (te := te) (ix := a5) (lt := te / 2) (by omega) (by omega) (by omega) (by omega), (fun x hx => by cases hx), (fun x hx => by cases hx), (by simp), (by simp), Hz.only [17], m215.ren [(20, 20), (2, 62), (3, 63), (4, 64)] (by decide)⟩
     ·
      clear Hz; intro hb203 Hz
      try simp only [Q1x, Q2x, Q3x, Q4x, Q5x, Q6x, Q7x, Q8x, Q9x, Q0x, Qax, Qbx] at hb203
      have hk5 : ¬ k = 5 := by have := hb203; first | omega | (simp at this; omega)
      refine wp_cond_false (Hz.ev (x := .tmp 49) rfl) ?_
      refine wp_seq_k (fun K16 hK16 => ?_)
      refine regS Hz (.eql rfl rfl <| .assign rfl <| .nil) ?_
      clear Hz Az; intro Az Hz
      refine bool_cases Hz (t := 60) rfl ?_ ?_
      ·
       clear Hz; intro hb218 Hz
       try simp only [Q1x, Q2x, Q3x, Q4x, Q5x, Q6x, Q7x, Q8x, Q9x, Q0x, Qax, Qbx] at hb218
       have hk2 : k = 2 := by have := hb218; first | omega | (simp at this; omega)
       refine wp_cond_true (Hz.ev (x := .tmp 60) rfl) ?_
       refine wp_skip ?_
       refine hK16 _ _ ?_; clear hK16; try clear K16
       refine wp_cond_true (Hz.ev (x := .tmp 60) rfl) ?_
       refine wp_region_lit ?_
       refine goCh Hz (.move rfl <| .fieldAddr (off := 8) rfl Tryd.underlying30 rfl (s := 0) (by kernel_rfl) rfl <| .nil) ?_
       clear Hz Az; intro Az Hz
       refine wpList_plain rfl (fun K hK => ?_)
       refine e_store1 Hz m37 20 rfl rfl rfl rfl rfl sz4mfi (by dsimp only [List.set] <;> rfl) ?_
       clear m37; intro w221 m221 hB221
       clear hB221
       refine hK _ _ ?_; clear hK K
       refine wpList_nil ?_
       have m222 := m221.dat 62 rfl (Rd.nilN _ _ .i64 none); clear m221
       have m223 := m222.dat 63 rfl (Rd.nilN _ _ .u8 none); clear m222
       have m224 := m223.dat 64 rfl (Rd.nilN _ _ .u8 none); clear m223
       obtain rfl : te = a4 := ht1 (by omega)
       show K4 _ _
       exact hC4 _ _ ⟨_, _, _, _, _, _, _, _, _, msgOkB ⟨hg0, hg1⟩ ⟨hf0, hf1⟩ ⟨hq0, hq1⟩ (te := te) (ix := 0) (lt := 0) (by omega) (by omega) (by omega) ok (by omega), (fun x hx => by cases hx), (fun x hx => by cases hx), (by simp), (by simp), Hz.only [17], m224.ren [(20, 20), (2, 62), (3, 63), (4, 64)] (by decide)⟩
      ·
       clear Hz; intro hb218 Hz
       try simp only [Q1x, Q2x, Q3x, Q4x, Q5x, Q6x, Q7x, Q8x, Q9x, Q0x, Qax, Qbx] at hb218
       have hk2 : ¬ k = 2 := by have := hb218; first | omega | (simp at this; omega)
       refine wp_cond_false (Hz.ev (x := .tmp 60) rfl) ?_
       refine wp_region_lit ?_
       refine goCh Hz (.eql rfl rfl <| .assign rfl <| .nil) ?_
       clear Hz Az; intro Az Hz
       refine wpList_nil ?_
       refine hK16 _ _ ?_; clear hK16; try clear K16
       refine bool_cases Hz (t := 60) rfl ?_ ?_
       ·
        clear Hz; intro hb227 Hz
        try simp only [Q1x, Q2x, Q3x, Q4x, Q5x, Q6x, Q7x, Q8x, Q9x, Q0x, Qax, Qbx] at hb227
        have hk4 : k = 4 := by have := hb227; first | omega | (simp at this; omega)
        refine wp_cond_true (Hz.ev (x := .tmp 60) rfl) ?_
        refine wp_region_lit ?_
        refine goCh Hz (.move rfl <| .fieldAddr (off := 8) rfl Tryd.underlying30 rfl (s := 0) (by kernel_rfl) rfl <| .nil) ?_
        clear Hz Az; intro Az Hz
        refine wpList_plain rfl (fun K hK => ?_)
        refine e_store1 Hz m37 20 rfl rfl rfl rfl rfl sz4mfi (by dsimp only [List.set] <;> rfl) ?_
        clear m37; intro w230 m230 hB230
        clear hB230
        refine hK _ _ ?_; clear hK K
        refine wpList_nil ?_
        have m231 := m230.dat 62 rfl (Rd.nilN _ _ .i64 none); clear m230
        have m232 := m231.dat 63 rfl (Rd.nilN _ _ .u8 none); clear m231
        have m233 := m232.dat 64 rfl (Rd.nilN _ _ .u8 none); clear m232
        obtain rfl : te = a4 := ht1 (by omega)
        show K4 _ _
        exact hC4 _ _ ⟨_, _, _, _, _, _, _, _, _, msgOkB ⟨hg0, hg1⟩ ⟨hf0, hf1⟩ ⟨hq0, hq1⟩ (te := te) (ix := 0) (lt := 0) (by omega) (by omega) (by omega) ok (by omega), (fun x hx => by cases hx), (fun x hx => by cases hx), (by simp), (by simp), Hz.only [17], m233.ren [(20, 20), (2, 62), (3, 63), (4, 64)] (by decide)⟩
       ·
        clear Hz; intro hb227 Hz
        try simp only [Q1x, Q2x, Q3x, Q4x, Q5x, Q6x, Q7x, Q8x, Q9x, Q0x, Qax, Qbx] at hb227
        have hk4 : ¬ k = 4 := by have := hb227; first | omega | (simp at this; omega)
        refine wp_cond_false (Hz.ev (x := .tmp 60) rfl) ?_
        refine regS Hz (.eql rfl rfl <| .assign rfl <| .nil) ?_
        clear Hz Az; intro Az Hz
        refine bool_cases Hz (t := 65) rfl ?_ ?_
        ·
         clear Hz; intro hb236 Hz
         try simp only [Q1x, Q2x, Q3x, Q4x, Q5x, Q6x, Q7x, Q8x, Q9x, Q0x, Qax, Qbx] at hb236
         have hk6 : k = 6 := by have := hb236; first | omega | (simp at this; omega)
         refine wp_cond_true (Hz.ev (x := .tmp 65) rfl) ?_
         replace Hz : Has 148 [(1, _), (4, _), (5, _), (6, _), (7, _), (17, _), (48, _)] Az := Hz.only [1, 4, 5, 6, 7, 17, 48]
         refine wp_region_lit ?_
         refine goCh Hz (.move rfl <| .move rfl <| .conv rfl Tryd.underlying22 Tryd.underlying3 (r := a5) (IntWalk.i64_in _ (by omega)) <| .fieldAddr (off := 8) rfl Tryd.underlying30 rfl (s := 0) (by kernel_rfl) rfl <| .nil) ?_
         clear Hz Az; intro Az Hz
         refine wpList_plain rfl (fun K hK => ?_)
         refine e_store1 Hz m37 20 rfl rfl rfl rfl rfl sz4mfi (by dsimp only [List.set] <;> rfl) ?_
         clear m37; intro w242 m242 hB242
         clear hB242
         refine hK _ _ ?_; clear hK K
         refine goCh Hz (.fieldAddr (off := 5) rfl Tryd.underlying30 rfl (s := 0) (by kernel_rfl) rfl .nil) ?_
         clear Hz Az; intro Az Hz
         refine wpList_plain rfl (fun K hK => ?_)
         refine e_store1 Hz m242 20 rfl rfl rfl rfl rfl sz3mfi (by dsimp only [List.set] <;> rfl) ?_
         clear m242; intro w244 m244 hB244
         clear hB244
         refine hK _ _ ?_; clear hK K
         refine wpList_nil ?_
         have m245 := m244.dat 62 rfl (Rd.nilN _ _ .i64 none); clear m244
         have m246 := m245.dat 63 rfl (Rd.nilN _ _ .u8 none); clear m245
         have m247 := m246.dat 64 rfl (Rd.nilN _ _ .u8 none); clear m246
         obtain rfl : te = a4 := ht1 (by omega)
         show K4 _ _
         exact hC4 _ _ ⟨_, _, _, _, _, _, _, _, _, msgOkC ⟨hg0, hg1⟩ ⟨hf0, hf1⟩ ⟨hq0, hq1⟩ (te := te) (ix := a5) (lt := 0) (by omega) (by omega) (by omega) ok (by omega), (fun x hx => by cases hx), (fun x hx => by cases hx), (by simp), (by simp), Hz.only [17], m247.ren [(20, 20), (2, 62), (3, 63), (4, 64)] (by decide)⟩
        ·
         clear Hz; intro hb236 Hz
         try simp only [Q1x, Q2x, Q3x, Q4x, Q5x, Q6x, Q7x, Q8x, Q9x, Q0x, Qax, Qbx] at hb236
         have hk6 : ¬ k = 6 := by have := hb236; first | omega | (simp at this; omega)
         refine wp_cond_false (Hz.ev (x := .tmp 65) rfl) ?_
         replace Hz : Has 148 [(1, _), (4, _), (5, _), (7, _), (17, _), (48, _)] Az := Hz.only [1, 4, 5, 7, 17, 48]
         refine regS Hz (.eql rfl rfl <| .assign rfl <| .nil) ?_
         clear Hz Az; intro Az Hz
         refine bool_cases Hz (t := 72) rfl ?_ ?_
         ·
          clear Hz; intro hb251 Hz
          try simp only [Q1x, Q2x, Q3x, Q4x, Q5x, Q6x, Q7x, Q8x, Q9x, Q0x, Qax, Qbx] at hb251
          have hk7 : k = 7 := by have := hb251; first | omega | (simp at this; omega)
          refine wp_cond_true (Hz.ev (x := .tmp 72) rfl) ?_
          refine wp_region_lit ?_
          refine goCh Hz (.move rfl <| .conv rfl Tryd.underlying22 Tryd.underlying3 (r := a5) (IntWalk.i64_in _ (by omega)) <| .move rfl <| .conv rfl Tryd.underlying22 Tryd.underlying3 (r := a4) (IntWalk.i64_in _ (by omega)) <| .nil) ?_
          clear Hz Az; intro Az Hz
          refine wpList_plain rfl (fun K hK => ?_)
          refine e_litN Hz m37 100 (k := .i64) rfl rfl Tryd.underlying25 inf3mfi rfl rfl rfl rfl ?_
          clear Hz Az m37; intro g256 Az w257 Hz m257
          refine hK _ _ ?_; clear hK K
          refine goCh Hz (.build rfl zc28mfi fl28mfi rfl (by dsimp only [setL, List.set] <;> rfl) <| .fieldAddr (off := 10) rfl Tryd.underlying30 rfl (s := 3) (by kernel_rfl) rfl <| .nil) ?_
          clear Hz Az; intro Az Hz
          refine wpList_plain rfl (fun K hK => ?_)
          refine e_storeR Hz m257 20 rfl rfl rfl rfl rfl sz28mfi (by dsimp only [List.take, List.drop, List.append_eq, List.append] <;> rfl) ?_
          clear m257; intro w260 m260 hB260
          clear hB260
          refine hK _ _ ?_; clear hK K
          refine wpList_nil ?_
          have m261 := m260.freezeN 100 rfl; clear m260
          have m262 := m261.dat 63 rfl (Rd.nilN _ _ .u8 none); clear m261
          have m263 := m262.dat 64 rfl (Rd.nilN _ _ .u8 none); clear m262
          obtain rfl : te = a4 := ht1 (by omega)
          show K4 _ _
          exact hC4 _ _ ⟨_, _, _, _, _, _, _, _, _, msgOkD ⟨hg0, hg1⟩ ⟨hf0, hf1⟩ ⟨hq0, hq1⟩ (te := te) (ix := a5) (lt := 0) (by omega) (by omega) (by omega) (by omega), (fun x hx => by cases hx), (fun x hx => by cases hx), (by simp), (by simp), Hz.only [17], m263.ren [(20, 20), (2, 100), (3, 63), (4, 64)] (by decide)⟩
         ·
          clear Hz; intro hb251 Hz
          try simp only [Q1x, Q2x, Q3x, Q4x, Q5x, Q6x, Q7x, Q8x, Q9x, Q0x, Qax, Qbx] at hb251
          have hk7 : ¬ k = 7 := by have := hb251; first | omega | (simp at this; omega)
          refine wp_cond_false (Hz.ev (x := .tmp 72) rfl) ?_
          refine regS Hz (.eql rfl rfl <| .assign rfl <| .nil) ?_
          clear Hz Az; intro Az Hz
          refine bool_cases Hz (t := 81) rfl ?_ ?_
          ·
           clear Hz; intro hb266 Hz
           try simp only [Q1x, Q2x, Q3x, Q4x, Q5x, Q6x, Q7x, Q8x, Q9x, Q0x, Qax, Qbx] at hb266
           have hk8 : k = 8 := by have := hb266; first | omega | (simp at this; omega)
           refine wp_cond_true (Hz.ev (x := .tmp 81) rfl) ?_
           refine wp_region_lit ?_
           refine goCh Hz (.move rfl .nil) ?_
           clear Hz Az; intro Az Hz
           refine wpList_plain rfl (fun K hK => ?_)
           refine e_litN Hz m37 100 (k := .u8) rfl rfl Tryd.underlying26 inf5mfi rfl rfl rfl rfl ?_
           clear Hz Az m37; intro g268 Az w269 Hz m269
           refine hK _ _ ?_; clear hK K
           refine goCh Hz (.fieldAddr (off := 14) rfl Tryd.underlying30 rfl (s := 0) (by kernel_rfl) rfl .nil) ?_
           clear Hz Az; intro Az Hz
           refine wpList_plain rfl (fun K hK => ?_)
           refine e_store1 Hz m269 20 rfl rfl rfl rfl rfl sz26mfi (by dsimp only [List.set] <;> rfl) ?_
           clear m269; intro w271 m271 hB271
           clear hB271
           refine hK _ _ ?_; clear hK K
           refine wpList_nil ?_
           have m272 := m271.dat 62 rfl (Rd.nilN _ _ .i64 none); clear m271
           have m273 := m272.dat 63 rfl (Rd.nilN _ _ .u8 none); clear m272
           have m274 := m273.freezeN 100 rfl; clear m273
           obtain rfl : te = 0 := ht2 (by omega)
           show K4 _ _
           exact hC4 _ _ ⟨_, _, _, _, _, _, _, _, _, msgOkE ⟨hg0, hg1⟩ ⟨hf0, hf1⟩ ⟨hq0, hq1⟩ (te := 0) (ix := 0) (lt := 0) (by omega) (by omega) (by omega) a7 (by omega), (fun x hx => by cases hx), (fun x hx => by simp only [List.mem_cons, List.not_mem_nil, or_false] at hx; omega), (by simp), (by simp), Hz.only [17], m274.ren [(20, 20), (2, 62), (3, 63), (4, 100)] (by decide)⟩
          ·
           clear Hz; intro hb266 Hz
           try simp only [Q1x, Q2x, Q3x, Q4x, Q5x, Q6x, Q7x, Q8x, Q9x, Q0x, Qax, Qbx] at hb266
           have hk8 : ¬ k = 8 := by have := hb266; first | omega | (simp at this; omega)
           refine wp_cond_false (Hz.ev (x := .tmp 81) rfl) ?_
           refine regS Hz (.eql rfl rfl <| .assign rfl <| .nil) ?_
           clear Hz Az; intro Az Hz
           refine bool_cases Hz (t := 86) rfl ?_ ?_
           ·
            clear Hz; intro hb277 Hz
            try simp only [Q1x, Q2x, Q3x, Q4x, Q5x, Q6x, Q7x, Q8x, Q9x, Q0x, Qax, Qbx] at hb277
            have hk9 : k = 9 := by have := hb277; first | omega | (simp at this; omega)
            refine wp_cond_true (Hz.ev (x := .tmp 86) rfl) ?_
            replace Hz : Has 148 [(1, _), (4, _), (5, _), (7, _), (17, _)] Az := Hz.only [1, 4, 5, 7, 17]
            refine wp_region_lit ?_
            refine goCh Hz (.move rfl <| .rem rfl rfl (by decide) (r := gq) hgq <| .conv rfl Tryd.underlying5 Tryd.underlying3 (r := gq) (IntWalk.i64_in _ (by omega)) <| .move rfl <| .conv rfl Tryd.underlying5 Tryd.underlying3 (r := a7) (IntWalk.i64_in _ (by omega)) <| .move rfl <| .conv rfl Tryd.underlying22 Tryd.underlying2 (r := a5) (IntWalk.i64_in _ (by omega)) <| .move rfl <| .conv rfl Tryd.underlying22 Tryd.underlying2 (r := a4) (IntWalk.i64_in _ (by omega)) <| .fieldAddr (off := 15) rfl Tryd.underlying30 rfl (s := 0) (by kernel_rfl) rfl <| .nil) ?_
            clear Hz Az; intro Az Hz
            refine wpList_plain rfl (fun K hK => ?_)
            refine e_store1 Hz m37 20 rfl rfl rfl rfl rfl sz3mfi (by dsimp only [List.set] <;> rfl) ?_
            clear m37; intro w289 m289 hB289
            clear hB289
            refine hK _ _ ?_; clear hK K
            refine goCh Hz (.fieldAddr (off := 16) rfl Tryd.underlying30 rfl (s := 0) (by kernel_rfl) rfl .nil) ?_
            clear Hz Az; intro Az Hz
            refine wpList_plain rfl (fun K hK => ?_)
            refine e_store1 Hz m289 20 rfl rfl rfl rfl rfl sz3mfi (by dsimp only [List.set] <;> rfl) ?_
            clear m289; intro w291 m291 hB291
            clear hB291
            refine hK _ _ ?_; clear hK K
            refine goCh Hz (.fieldAddr (off := 17) rfl Tryd.underlying30 rfl (s := 0) (by kernel_rfl) rfl .nil) ?_
            clear Hz Az; intro Az Hz
            refine wpList_plain rfl (fun K hK => ?_)
            refine e_store1 Hz m291 20 rfl rfl rfl rfl rfl sz2mfi (by dsimp only [List.set] <;> rfl) ?_
            clear m291; intro w293 m293 hB293
            clear hB293
            refine hK _ _ ?_; clear hK K
            refine goCh Hz (.fieldAddr (off := 18) rfl Tryd.underlying30 rfl (s := 0) (by kernel_rfl) rfl .nil) ?_
            clear Hz Az; intro Az Hz
            refine wpList_plain rfl (fun K hK => ?_)
            refine e_store1 Hz m293 20 rfl rfl rfl rfl rfl sz2mfi (by dsimp only [List.set] <;> rfl) ?_
            clear m293; intro w295 m295 hB295
            clear hB295
            refine hK _ _ ?_; clear hK K
            refine wpList_nil ?_
            have m296 := m295.dat 62 rfl (Rd.nilN _ _ .i64 none); clear m295
            have m297 := m296.dat 63 rfl (Rd.nilN _ _ .u8 none); clear m296
            have m298 := m297.dat 64 rfl (Rd.nilN _ _ .u8 none); clear m297
            obtain rfl : te = 0 := ht2 (by omega)
            show K4 _ _
            exact hC4 _ _ ⟨_, _, _, _, _, _, _, _, _, msgOkF ⟨hg0, hg1⟩ ⟨hf0, hf1⟩ ⟨hq0, hq1⟩ (te := a4) (ix := a5) (lt := 0) (by omega) (by omega) (by omega) gq a7 (by omega) (by omega) (by omega), (fun x hx => by cases hx), (fun x hx => by cases hx), (by simp), (by simp), Hz.only [17], m298.ren [(20, 20), (2, 62), (3, 63), (4, 64)] (by decide)⟩
           ·
            clear Hz; intro hb277 Hz
            try simp only [Q1x, Q2x, Q3x, Q4x, Q5x, Q6x, Q7x, Q8x, Q9x, Q0x, Qax, Qbx] at hb277
            exfalso
            have hk9 : ¬ k = 9 := by have := hb277; first | omega | (simp at this; omega)
            omega
 replace Hz : Has 148 [(0, _), (1, _), (2, _), (3, _), (4, _), (5, _), (6, _), (7, _), (16, _), (17, _)] Az := Hz.only [0, 1, 2, 3, 4, 5, 6, 7, 16, 17]
 refine regS Hz (.fieldAddr (off := 0) rfl Tryd.underlying30 rfl (s := 0) (by kernel_rfl) rfl <| .loadB1 m36 (i := 30) rfl rfl rfl Tryd.underlying3 rfl <| .leq rfl rfl <| .nil) ?_
 clear Hz Az; intro Az Hz
 refine bool_cases Hz (t := 43) rfl ?_ ?_
 ·
  clear Hz; intro hb303 Hz
  try simp only [Q1x, Q2x, Q3x, Q4x, Q5x, Q6x, Q7x, Q8x, Q9x, Q0x, Qax, Qbx] at hb303
  have hk7 : k ≤ 7 := by have := hb303; first | omega | (simp at this; omega)
  refine wp_cond_true (Hz.ev (x := .tmp 43) rfl) ?_
  refine wp_region_lit ?_
  refine goCh Hz (.move rfl <| .conv rfl Tryd.underlying22 Tryd.underlying3 (r := a4) (IntWalk.i64_in _ (by omega)) <| .fieldAddr (off := 4) rfl Tryd.underlying30 rfl (s := 0) (by kernel_rfl) rfl <| .nil) ?_
  clear Hz Az; intro Az Hz
  refine wpList_plain rfl (fun K hK => ?_)
  refine e_store1 Hz m36 30 rfl rfl rfl rfl rfl sz3mfi (by dsimp only [List.set] <;> rfl) ?_
  clear m36; intro w307 m307 hB307
  clear hB307
  refine hK _ _ ?_; clear hK K
  refine wpList_nil ?_
  show K3 _ _
  exact hC3 _ _ ⟨_, a4, fun _ => rfl, fun h => by omega, Hz.only [0, 1, 2, 3, 4, 5, 6, 7, 17], m307.ren [(20, 30)] (by decide)⟩
 ·
  clear Hz; intro hb303 Hz
  try simp only [Q1x, Q2x, Q3x, Q4x, Q5x, Q6x, Q7x, Q8x, Q9x, Q0x, Qax, Qbx] at hb303
  have hk7 : ¬ k ≤ 7 := by have := hb303; first | omega | (simp at this; omega)
  refine wp_cond_false (Hz.ev (x := .tmp 43) rfl) ?_
  refine wp_skip ?_
  show K3 _ _
  exact hC3 _ _ ⟨_, 0, fun h => by omega, fun _ => rfl, Hz.only [0, 1, 2, 3, 4, 5, 6, 7, 17], m36.ren [(20, 30)] (by decide)⟩
end Go.Proofs.YtmoghepeggohhaaDoor.K
