/- msg: pack.Lump; Put of messages without entries. -/
import Derived.Test.YtmoghepeggohhaaDoorMsgB
import Derived.Test.YtmoghepeggohhaaDoorG3
namespace Go.Proofs.YtmoghepeggohhaaDoor.K
open Go.ChangeShapes Go.WideShapes Go.ChangeAt Go.RowKit
set_option linter.unusedVariables false
set_option linter.unusedSimpArgs false

theorem inf5wlu : (Tryd.prog.info? 5).map (fun i => (i.zero, i.size, i.bytes)) = some (some (.int .u8 0), 1, 1) := by kernel_rfl
theorem inf66wlu : (Tryd.prog.info? 66).map (fun i => (i.zero, i.size, i.bytes)) = some (some (.int .u64 0), 1, 8) := by kernel_rfl
theorem sz30mp0 : (Tryd.prog.info? 30).map (·.size) = some 19 := by kernel_rfl
theorem inf3mpu : (Tryd.prog.info? 3).map (fun i => (i.zero, i.size, i.bytes)) = some (some (.int .i64 0), 1, 8) := by kernel_rfl
theorem inf5mpu : (Tryd.prog.info? 5).map (fun i => (i.zero, i.size, i.bytes)) = some (some (.int .u8 0), 1, 1) := by kernel_rfl
theorem inf26mpu : (Tryd.prog.info? 26).map (fun i => (i.zero, i.size, i.bytes)) = some (some (.slice none 0 0), 1, 24) := by kernel_rfl
theorem sz28mpu : (Tryd.prog.info? 28).map (·.size) = some 4 := by kernel_rfl
theorem sz30mpu : (Tryd.prog.info? 30).map (·.size) = some 19 := by kernel_rfl

set_option maxRecDepth 100000
set_option maxHeartbeats 4000000
theorem mright_yes (m : MV) (hR : msgR m = true) (pe p2 p3 p4 : Option Addr) (ce c2 c3 c4 : Nat) (w0 : World) (h2 : Rd (fun _ => True) w0 (.slice p2 m.cf.length c2) (.ns .i64 m.cf)) (h3 : Rd (fun _ => True) w0 (.slice p3 m.bd.length c3) (.ns .u8 m.bd)) (h4 : Rd (fun _ => True) w0 (.slice p4 m.da.length c4) (.ns .u8 m.da)) (hcl : m.cf.length ≤ 900) (hbb : BytesL m.bd) :
   Calls Tryd.prog 8 #[.agg #[.int .i64 m.k, .int .i64 m.g, .int .i64 m.f, .int .i64 m.t, .int .i64 m.n.te, .int .i64 m.n.ix, .int .i64 m.n.lt, .int .i64 m.n.co, .bool m.n.ok, .slice pe 0 ce, .int .i64 m.bi, .int .i64 m.bt, .slice p2 m.cf.length c2, .slice p3 m.bd.length c3, .slice p4 m.da.length c4, .int .i64 m.n.vo, .int .i64 m.n.ch, .int .i64 m.n.ma, .int .i64 m.n.fl]] w0 fun e w' => e = .returned (.bool true) ∧ Below w0.heap.size w0 w' := hR ▸ right_x m pe p2 p3 p4 ce c2 c3 c4 w0 h2 h3 h4 hcl hbb
theorem mright_no (m : MV) (hR : msgR m = false) (pe p2 p3 p4 : Option Addr) (ce c2 c3 c4 : Nat) (w0 : World) (h2 : Rd (fun _ => True) w0 (.slice p2 m.cf.length c2) (.ns .i64 m.cf)) (h3 : Rd (fun _ => True) w0 (.slice p3 m.bd.length c3) (.ns .u8 m.bd)) (h4 : Rd (fun _ => True) w0 (.slice p4 m.da.length c4) (.ns .u8 m.da)) (hcl : m.cf.length ≤ 900) (hbb : BytesL m.bd) :
   Calls Tryd.prog 8 #[.agg #[.int .i64 m.k, .int .i64 m.g, .int .i64 m.f, .int .i64 m.t, .int .i64 m.n.te, .int .i64 m.n.ix, .int .i64 m.n.lt, .int .i64 m.n.co, .bool m.n.ok, .slice pe 0 ce, .int .i64 m.bi, .int .i64 m.bt, .slice p2 m.cf.length c2, .slice p3 m.bd.length c3, .slice p4 m.da.length c4, .int .i64 m.n.vo, .int .i64 m.n.ch, .int .i64 m.n.ma, .int .i64 m.n.fl]] w0 fun e w' => e = .returned (.bool false) ∧ Below w0.heap.size w0 w' := hR ▸ right_x m pe p2 p3 p4 ce c2 c3 c4 w0 h2 h3 h4 hcl hbb
theorem plump_x (b : List Int) (p : Option Addr) (c : Nat) (w0 : World) (h0 : Rd (fun _ => True) w0 (.slice p b.length c) (.ns .u8 b)) (hl : b.length ≤ 1000000) :
   Calls Tryd.prog 15 #[.slice p b.length c] w0 fun e w' => ∃ (p : Option Addr) (c : Nat), e = .returned (.slice p (enc b.length ++ b).length c) ∧ w'.ownsRow w0.heap.size 5 1 (.slice p (enc b.length ++ b).length c) (enc b.length ++ b).length ((enc b.length ++ b).map (Value.int .u8)) ∧ Below w0.heap.size w0 w' := by
 refine enter (fn := Tryd.f15) Tryd.func15 rfl Tryd.ntmps15 rfl (fun Az Hz => ?_)
 simp only [List.zipIdx_cons, List.zipIdx_nil, List.map_cons, List.map_nil, Nat.reduceAdd, Nat.zero_add] at Hz
 have m0 := MemOk.start (fun _ => False) w0
 refine regS Hz (.assign rfl <| .nil) ?_
 clear Hz Az; intro Az Hz
 refine wp_seq_k (fun K0 hK0 => ?_)
 refine wp_region_lit ?_
 refine goCh Hz (.move rfl <| .len rfl Tryd.underlying26 <| .conv rfl Tryd.underlying3 Tryd.underlying66 (r := (b.length : Int)) (IntWalk.u64_in _ (by omega)) <| .nil) ?_
 clear Hz Az; intro Az Hz
 refine wpList_plain rfl (fun K hK => ?_)
 refine e_litN Hz m0 20 (k := .u64) rfl rfl Tryd.underlying90 inf66wlu rfl rfl rfl rfl ?_
 clear Hz Az m0; intro g8 Az w9 Hz m9
 refine hK _ _ ?_; clear hK K
 have m10 := m9.freezeN 20 rfl; clear m9
 refine wpList_plain rfl (fun K hK => ?_)
 refine e_call Hz Tryd.func28 rfl rfl rfl rfl (pput_x _ [(b.length : Int)] _ ((m10.rd (i := 20) rfl).any) (by simp) (one63 (by omega))) ?_
 rintro e w11 ⟨p11, c11, rfl, ho11, hb11⟩
 have m12 := m10.newN 21 hb11 ho11
 clear m10
 clear hb11 ho11
 refine ⟨_, rfl, ?_⟩; clear Hz Az; intro Az Hz
 refine hK _ _ ?_; clear hK K
 refine goCh Hz (.move rfl .nil) ?_
 clear Hz Az; intro Az Hz
 refine wpList_plain rfl (fun K hK => ?_)
 refine e_appN Hz m12 21 rfl rfl rfl (h0.now' m12 rfl).ns_out.nums Tryd.underlying26 inf5wlu (by decide) (by rw [encs_one]; have := (enc_len (b.length : Int)).1; omega) rfl ?_
 clear Hz Az m12; intro p15 c15 Az w16 Hz m16
 refine hK _ _ ?_; clear hK K
 refine goCh Hz (.assign rfl .nil) ?_
 clear Hz Az; intro Az Hz
 refine wpList_nil ?_
 refine hK0 _ _ ?_; clear hK0; try clear K0
 refine wp_ret ?_
 try dsimp only [Exit.then, Exit.inBlock]
 refine (ret1 (fn := Tryd.f15) Hz rfl rfl ?_)
 rw [encs_one] at m16
 rw [encs_one]
 exact ⟨_, _, rfl, m16.ok 21 _ rfl, m16.below⟩
theorem mput_no (m : MV) (hR : msgR m = false) (pe p2 p3 p4 : Option Addr) (ce c2 c3 c4 : Nat) (w0 : World) (h2 : Rd (fun _ => True) w0 (.slice p2 m.cf.length c2) (.ns .i64 m.cf)) (h3 : Rd (fun _ => True) w0 (.slice p3 m.bd.length c3) (.ns .u8 m.bd)) (h4 : Rd (fun _ => True) w0 (.slice p4 m.da.length c4) (.ns .u8 m.da)) (hcl : m.cf.length ≤ 900) (hbb : BytesL m.bd) :
   Calls Tryd.prog 5 #[.agg #[.int .i64 m.k, .int .i64 m.g, .int .i64 m.f, .int .i64 m.t, .int .i64 m.n.te, .int .i64 m.n.ix, .int .i64 m.n.lt, .int .i64 m.n.co, .bool m.n.ok, .slice pe 0 ce, .int .i64 m.bi, .int .i64 m.bt, .slice p2 m.cf.length c2, .slice p3 m.bd.length c3, .slice p4 m.da.length c4, .int .i64 m.n.vo, .int .i64 m.n.ch, .int .i64 m.n.ma, .int .i64 m.n.fl]] w0 fun e w' => e = .returned (.tuple #[.slice none 0 0, .int .i64 23]) ∧ Below w0.heap.size w0 w' := by
 refine enter (fn := Tryd.f5) Tryd.func5 rfl Tryd.ntmps5 rfl (fun Az Hz => ?_)
 simp only [List.zipIdx_cons, List.zipIdx_nil, List.map_cons, List.map_nil, Nat.reduceAdd, Nat.zero_add] at Hz
 have m0 := MemOk.start (fun _ => True) w0
 refine wp_seq_k (fun K0 hK0 => ?_)
 refine wp_region_lit ?_
 refine wpList_plain rfl (fun K hK => ?_)
 refine e_box Hz m0 20 (cs := [_, _, _, _, _, _, _, _, _, _, _, _, _, _, _, _, _, _, _]) rfl rfl rfl ?_
 clear Hz Az m0; intro g1 Az w2 Hz m2 hB2 hg2
 clear hB2 hg2
 refine hK _ _ ?_; clear hK K
 refine goCh Hz (.assign rfl <| .assign rfl <| .nil) ?_
 clear Hz Az; intro Az Hz
 refine wpList_nil ?_
 refine hK0 _ _ ?_; clear hK0; try clear K0
 refine wp_seq_k (fun K1 hK1 => ?_)
 refine wp_seq_k (fun K2 hK2 => ?_)
 refine wp_region_lit ?_
 refine goCh Hz (.loadBR m2 (i := 20) rfl rfl Tryd.underlying30 rfl sz30mp0 (by simp) (by dsimp only [List.drop, List.take] <;> rfl) .nil) ?_
 clear Hz Az; intro Az Hz
 refine wpList_plain rfl (fun K hK => ?_)
 refine e_call Hz Tryd.func8 rfl rfl rfl rfl (mright_no m hR _ _ _ _ _ _ _ _ _ ((h2.now' m2 rfl).any) ((h3.now' m2 rfl).any) ((h4.now' m2 rfl).any) hcl hbb) ?_
 rintro e w7 ⟨rfl, hb7⟩
 have m8 := m2.later hb7
 clear m2
 clear hb7
 refine ⟨_, rfl, ?_⟩; clear Hz Az; intro Az Hz
 refine hK _ _ ?_; clear hK K
 refine goCh Hz (.not rfl .nil) ?_
 clear Hz Az; intro Az Hz
 refine wpList_nil ?_
 refine hK2 _ _ ?_; clear hK2; try clear K2
 refine wp_cond_true (Hz.ev (x := .tmp 10) rfl) ?_
 refine regS Hz (.assign rfl <| .assign rfl <| .nil) ?_
 clear Hz Az; intro Az Hz
 refine wp_ret ?_
 try dsimp only [Exit.then, Exit.inBlock]
 refine (ret2 (fn := Tryd.f5) Hz rfl rfl rfl ?_)
 exact ⟨rfl, m8.below⟩
theorem mput_yes (m : MV) (hR : msgR m = true) (pe p2 p3 p4 : Option Addr) (ce c2 c3 c4 : Nat) (w0 : World) (hT : TabOk w0) (h01 : 1 ≤ w0.heap.size) (h2 : Rd (fun _ => True) w0 (.slice p2 m.cf.length c2) (.ns .i64 m.cf)) (h3 : Rd (fun _ => True) w0 (.slice p3 m.bd.length c3) (.ns .u8 m.bd)) (h4 : Rd (fun _ => True) w0 (.slice p4 m.da.length c4) (.ns .u8 m.da)) (hcl : m.cf.length ≤ 900) (hbb : BytesL m.bd) (hda : BytesL m.da) (hl3 : m.bd.length ≤ 1000) (hl4 : m.da.length ≤ 1000) :
   Calls Tryd.prog 5 #[.agg #[.int .i64 m.k, .int .i64 m.g, .int .i64 m.f, .int .i64 m.t, .int .i64 m.n.te, .int .i64 m.n.ix, .int .i64 m.n.lt, .int .i64 m.n.co, .bool m.n.ok, .slice pe 0 ce, .int .i64 m.bi, .int .i64 m.bt, .slice p2 m.cf.length c2, .slice p3 m.bd.length c3, .slice p4 m.da.length c4, .int .i64 m.n.vo, .int .i64 m.n.ch, .int .i64 m.n.ma, .int .i64 m.n.fl]] w0 fun e w' => ∃ (p : Option Addr) (c : Nat), e = .returned (.tuple #[.slice p (msgB m).length c, .int .i64 0]) ∧ w'.ownsRow w0.heap.size 5 1 (.slice p (msgB m).length c) (msgB m).length ((msgB m).map (Value.int .u8)) ∧ Below w0.heap.size w0 w' := by
 have hO := msgR_out hR
 have hq1 := encs_len (numsL m)
 have hq2 := encs_len [bitI (decide (m.k = 7))]
 have hq3 := baseM_len hO
 have hq4 := preM_len hO
 have hq5 := bodyM_len hO
 have hq6 := encs_len (tailL m)
 have hq7 := (enc_len (m.da.length : Int)).1
 have hn10 : (numsL m).length = 10 := rfl
 have ht4 : (tailL m).length = 4 := rfl
 have hb1 : ([bitI (decide (m.k = 7))] : List Int).length = 1 := rfl
 have hbi : ∀ x ∈ [bitI (decide (m.k = 7))], 0 ≤ x ∧ x ≤ 9223372036854775807 := fun x hx => by
   have := bitI_out (decide (m.k = 7))
   simp only [List.mem_cons, List.not_mem_nil, or_false] at hx
   omega
 refine enter (fn := Tryd.f5) Tryd.func5 rfl Tryd.ntmps5 rfl (fun Az Hz => ?_)
 simp only [List.zipIdx_cons, List.zipIdx_nil, List.map_cons, List.map_nil, Nat.reduceAdd, Nat.zero_add] at Hz
 have m0 := MemOk.start (fun _ => True) w0
 refine wp_seq_k (fun K0 hK0 => ?_)
 refine wp_region_lit ?_
 refine wpList_plain rfl (fun K hK => ?_)
 refine e_box Hz m0 20 (cs := [_, _, _, _, _, _, _, _, _, _, _, _, _, _, _, _, _, _, _]) rfl rfl rfl ?_
 clear Hz Az m0; intro g1 Az w2 Hz m2 hB2 hg2
 clear hB2 hg2
 refine hK _ _ ?_; clear hK K
 refine goCh Hz (.assign rfl <| .assign rfl <| .nil) ?_
 clear Hz Az; intro Az Hz
 refine wpList_nil ?_
 refine hK0 _ _ ?_; clear hK0; try clear K0
 refine wp_seq_k (fun K1 hK1 => ?_)
 refine wp_seq_k (fun K2 hK2 => ?_)
 refine wp_region_lit ?_
 refine goCh Hz (.loadBR m2 (i := 20) rfl rfl Tryd.underlying30 rfl sz30mpu (by simp) (by dsimp only [List.drop, List.take] <;> rfl) .nil) ?_
 clear Hz Az; intro Az Hz
 refine wpList_plain rfl (fun K hK => ?_)
 refine e_call Hz Tryd.func8 rfl rfl rfl rfl (mright_yes m hR _ _ _ _ _ _ _ _ _ ((h2.now' m2 rfl).any) ((h3.now' m2 rfl).any) ((h4.now' m2 rfl).any) hcl hbb) ?_
 rintro e w7 ⟨rfl, hb7⟩
 have m8 := m2.later hb7
 clear m2
 clear hb7
 refine ⟨_, rfl, ?_⟩; clear Hz Az; intro Az Hz
 refine hK _ _ ?_; clear hK K
 refine goCh Hz (.not rfl .nil) ?_
 clear Hz Az; intro Az Hz
 refine wpList_nil ?_
 refine hK2 _ _ ?_; clear hK2; try clear K2
 refine wp_cond_false (Hz.ev (x := .tmp 10) rfl) ?_
 refine wp_skip ?_
 refine hK1 _ _ ?_; clear hK1; try clear K1
 refine wp_seq_k (fun K3 hK3 => ?_)
 have m11 : MemOk _ _ [(20, _)] _ := m8.only [20]; clear m8
 refine region_p 25 (B := [(20, _)]) (m11.to ⟨il, trivial⟩) m11 (by kernel_rfl) (fun w12 hP12 m12 => ?_); clear m11
 refine goR hP12 [0, 1, 2, 3, 4, 5, 6, 7, 8, 9, 10, 11, 12, 13, 14, 15, 16, 17, 19, 20, 21] [1, 3, 5, 7, 9, 11, 13, 15, 17, 20] 21 0 3932159 Hz (m12.to ⟨il, trivial⟩) (.fieldAddr (off := 0) rfl Tryd.underlying30 rfl (s := 0) (by kernel_rfl) rfl <| .loadB1 hh (i := 20) rfl rfl rfl Tryd.underlying3 rfl <| .fieldAddr (off := 1) rfl Tryd.underlying30 rfl (s := 0) (by kernel_rfl) rfl <| .loadB1 hh (i := 20) rfl rfl rfl Tryd.underlying3 rfl <| .fieldAddr (off := 2) rfl Tryd.underlying30 rfl (s := 0) (by kernel_rfl) rfl <| .loadB1 hh (i := 20) rfl rfl rfl Tryd.underlying3 rfl <| .fieldAddr (off := 3) rfl Tryd.underlying30 rfl (s := 0) (by kernel_rfl) rfl <| .loadB1 hh (i := 20) rfl rfl rfl Tryd.underlying3 rfl <| .fieldAddr (off := 4) rfl Tryd.underlying30 rfl (s := 0) (by kernel_rfl) rfl <| .loadB1 hh (i := 20) rfl rfl rfl Tryd.underlying3 rfl <| .fieldAddr (off := 5) rfl Tryd.underlying30 rfl (s := 0) (by kernel_rfl) rfl <| .loadB1 hh (i := 20) rfl rfl rfl Tryd.underlying3 rfl <| .fieldAddr (off := 6) rfl Tryd.underlying30 rfl (s := 0) (by kernel_rfl) rfl <| .loadB1 hh (i := 20) rfl rfl rfl Tryd.underlying3 rfl <| .fieldAddr (off := 7) rfl Tryd.underlying30 rfl (s := 0) (by kernel_rfl) rfl <| .loadB1 hh (i := 20) rfl rfl rfl Tryd.underlying3 rfl <| .fieldAddr (off := 8) rfl Tryd.underlying30 rfl (s := 0) (by kernel_rfl) rfl <| .loadB1 hh (i := 20) rfl rfl rfl Tryd.underlying4 rfl <| .fieldAddr (off := 9) rfl Tryd.underlying30 rfl (s := 0) (by kernel_rfl) rfl <| .loadB1 hh (i := 20) rfl rfl rfl Tryd.underlying24 rfl <| .len rfl Tryd.underlying24 <| .nil) ?_
 clear Hz Az; intro Az Hz
 refine stepE_only 18 rfl (by kernel_rfl) rfl (fun K hK => ?_)
 refine e_call Hz Tryd.func10 rfl rfl rfl rfl (bit_x m.n.ok _) ?_
 rintro e w34 ⟨rfl, hb34⟩
 have m35 := m12.later hb34
 clear m12
 clear hb34
 refine ⟨_, rfl, ?_⟩; clear Hz Az; intro Az Hz
 refine hK _ _ (m35.to ⟨il, trivial⟩) ?_; clear hK K
 refine stepE_only 22 rfl (by kernel_rfl) rfl (fun K hK => ?_)
 refine e_litN Hz m35 21 (k := .i64) rfl rfl Tryd.underlying25 inf3mpu rfl rfl rfl rfl ?_
 clear Hz Az m35; intro g37 Az w38 Hz m38
 refine hK _ _ (m38.to ⟨il, trivial⟩) ?_; clear hK K
 have m39 := m38.freezeN 21 rfl; clear m38
 refine stepE_only 23 rfl (by kernel_rfl) rfl (fun K hK => ?_)
 refine e_call Hz Tryd.func9 rfl rfl rfl rfl (pnums_x (numsL m) _ _ _ ((m39.rd (i := 21) rfl).any) (by simp [numsL, tailL]) (b63 (numsL_63 hO))) ?_
 rintro e w40 ⟨p40, c40, rfl, ho40, hb40⟩
 have m41 := m39.newN 22 hb40 ho40
 clear m39
 clear hb40 ho40
 refine ⟨_, rfl, ?_⟩; clear Hz Az; intro Az Hz
 refine hK _ _ (m41.to ⟨il, trivial⟩) ?_; clear hK K
 refine goA hP12 [24] 1 16777215 33554431 Hz (m41.to ⟨il, trivial⟩) (.assign rfl <| .nil) ?_
 clear Hz Az; intro Az Hz
 refine wpAnyE_done (by kernel_rfl) ?_ _
 refine hK3 _ _ ?_; clear hK3; try clear K3
 refine wp_seq_k (fun K4 hK4 => ?_)
 replace Hz : Has 79 [(1, _), (2, _), (3, _), (4, _)] Az := Hz.only [1, 2, 3, 4]
 refine regS Hz (.fieldAddr (off := 9) rfl Tryd.underlying30 rfl (s := 0) (by kernel_rfl) rfl <| .loadB1 m41 (i := 20) rfl rfl rfl Tryd.underlying24 rfl <| .len rfl Tryd.underlying24 <| .move rfl <| .nil) ?_
 clear Hz Az; intro Az Hz
 refine wp_block ?_
 refine wp_loop_ghost (fun g a w => ∃ (B : Nat) (p : Option Addr) (c : Nat), g = 0 ∧ Has 79 [(1, .pointer (some ⟨B, 0, none⟩)), (4, .slice p (encs (numsL m)).length c), (37, .int .i64 0), (38, .int .i64 0)] a ∧ MemOk (cx (fun _ => True) w0) w0 [(8, .box B 30 [.int .i64 m.k, .int .i64 m.g, .int .i64 m.f, .int .i64 m.t, .int .i64 m.n.te, .int .i64 m.n.ix, .int .i64 m.n.lt, .int .i64 m.n.co, .bool m.n.ok, .slice pe 0 ce, .int .i64 m.bi, .int .i64 m.bt, .slice p2 m.cf.length c2, .slice p3 m.bd.length c3, .slice p4 m.da.length c4, .int .i64 m.n.vo, .int .i64 m.n.ch, .int .i64 m.n.ma, .int .i64 m.n.fl]), (9, .num (.slice p (encs (numsL m)).length c) 5 .u8 (encs (numsL m)))] w) (0) ?_ ?_
 · exact ⟨_, _, _, rfl, Hz.only [1, 4, 37, 38], m41.ren [(8, 20), (9, 22)] (by decide)⟩
 ·
  clear Hz m41
  rintro g Az w49 ⟨B, p, c, hg, Hz, m49⟩
  refine regS Hz (.lss rfl rfl <| .nil) ?_
  clear Hz Az; intro Az Hz
  refine wp_seq_k (fun K5 hK5 => ?_)
  refine bool_cases Hz (t := 39) rfl ?_ ?_
  · intro hb _; exact absurd hb (by simp)
  clear Hz; intro _ Hz
  refine wp_cond_false (Hz.ev (x := .tmp 39) rfl) ?_
  refine wp_exit ?_
  refine hK4 _ _ ?_; clear hK4; try clear K4
  refine regS Hz (.fieldAddr (off := 0) rfl Tryd.underlying30 rfl (s := 0) (by kernel_rfl) rfl <| .loadB1 m49 (i := 8) rfl rfl rfl Tryd.underlying3 rfl <| .eql rfl rfl <| .assign rfl <| .nil) ?_
  clear Hz Az; intro Az Hz
  refine wp_seq_k (fun K6 hK6 => ?_)
  refine wp_region_lit ?_
  refine goCh Hz (.move rfl <| .move rfl <| .nil) ?_
  clear Hz Az; intro Az Hz
  refine wpList_plain rfl (fun K hK => ?_)
  refine e_call Hz Tryd.func10 rfl rfl rfl rfl (bit_x (decide (m.k = 7)) _) ?_
  rintro e w60 ⟨rfl, hb60⟩
  have m61 := m49.later hb60
  clear m49
  clear hb60
  refine ⟨_, rfl, ?_⟩; clear Hz Az; intro Az Hz
  refine hK _ _ ?_; clear hK K
  refine wpList_plain rfl (fun K hK => ?_)
  refine e_litN Hz m61 100 (k := .i64) rfl rfl Tryd.underlying25 inf3mpu rfl rfl rfl rfl ?_
  clear Hz Az m61; intro g63 Az w64 Hz m64
  refine hK _ _ ?_; clear hK K
  have m65 := m64.freezeN 100 rfl; clear m64
  refine wpList_plain rfl (fun K hK => ?_)
  refine e_call Hz Tryd.func9 rfl rfl rfl rfl (pnums_x [bitI (decide (m.k = 7))] _ _ _ ((m65.rd (i := 100) rfl).any) (by simp [numsL, tailL]) (b63 hbi)) ?_
  rintro e w66 ⟨p66, c66, rfl, ho66, hb66⟩
  have m67 := m65.newN 101 hb66 ho66
  clear m65
  clear hb66 ho66
  refine ⟨_, rfl, ?_⟩; clear Hz Az; intro Az Hz
  refine hK _ _ ?_; clear hK K
  refine wpList_plain rfl (fun K hK => ?_)
  refine e_appN Hz m67 9 rfl rfl rfl (m67.numsO (i := 101) rfl) Tryd.underlying26 inf5mpu (by decide) (by omega) rfl ?_
  clear Hz Az m67; intro p69 c69 Az w70 Hz m70
  refine hK _ _ ?_; clear hK K
  refine goCh Hz (.assign rfl .nil) ?_
  clear Hz Az; intro Az Hz
  refine wpList_nil ?_
  refine hK6 _ _ ?_; clear hK6; try clear K6
  refine wp_seq_k (fun K7 hK7 => ?_)
  have hC7 : ∀ (a : Act) (w : World), (∃ (B : Nat) (p : Option Addr) (c : Nat), Has 79 [(1, .pointer (some ⟨B, 0, none⟩)), (4, .slice p (preM m).length c)] a ∧ MemOk (cx (fun _ => True) w0) w0 [(8, .box B 30 [.int .i64 m.k, .int .i64 m.g, .int .i64 m.f, .int .i64 m.t, .int .i64 m.n.te, .int .i64 m.n.ix, .int .i64 m.n.lt, .int .i64 m.n.co, .bool m.n.ok, .slice pe 0 ce, .int .i64 m.bi, .int .i64 m.bt, .slice p2 m.cf.length c2, .slice p3 m.bd.length c3, .slice p4 m.da.length c4, .int .i64 m.n.vo, .int .i64 m.n.ch, .int .i64 m.n.ma, .int .i64 m.n.fl]), (9, .num (.slice p (preM m).length c) 5 .u8 (preM m))] w) → K7 a w := by
    clear Hz m70
    rintro Az w72 ⟨B, p, c, Hz, m72⟩
    refine hK7 _ _ ?_; clear hK7; try clear K7
    refine wp_seq_k (fun K8 hK8 => ?_)
    have m73 : MemOk _ _ [(8, _), (9, _)] _ := m72.only [8, 9]; clear m72
    refine region_p 19 (B := [(8, _)]) (m73.to ⟨il, trivial⟩) m73 (by kernel_rfl) (fun w74 hP74 m74 => ?_); clear m73
    refine dsuf (I := fun a w => ∃ (p62 p65 p75 : Option Addr) (c62 c65 c75 : Nat), Has 79 [(1, .pointer (some ⟨B, 0, none⟩)), (62, .slice p62 (preM m).length c62), (65, .slice p65 (enc (m.da.length : Int) ++ m.da).length c65), (75, .slice p75 (encs (tailL m)).length c75)] a ∧ MemOk (cx (fun _ => True) w0) w0 [(8, .box B 30 [.int .i64 m.k, .int .i64 m.g, .int .i64 m.f, .int .i64 m.t, .int .i64 m.n.te, .int .i64 m.n.ix, .int .i64 m.n.lt, .int .i64 m.n.co, .bool m.n.ok, .slice pe 0 ce, .int .i64 m.bi, .int .i64 m.bt, .slice p2 m.cf.length c2, .slice p3 m.bd.length c3, .slice p4 m.da.length c4, .int .i64 m.n.vo, .int .i64 m.n.ch, .int .i64 m.n.ma, .int .i64 m.n.fl]), (9, .num (.slice p62 (preM m).length c62) 5 .u8 (preM m)), (10, .num (.slice p65 (enc (m.da.length : Int) ++ m.da).length c65) 5 .u8 (enc (m.da.length : Int) ++ m.da)), (11, .num (.slice p75 (encs (tailL m)).length c75) 5 .u8 (encs (tailL m)))] w) 5 16383 ?_ fun hD => ?_
    ·
     clear Hz m74
     rintro Az w75 ⟨p62, p65, p75, c62, c65, c75, Hz, m75⟩
     have m77 := m75.freezeN 9 rfl; clear m75
     have m78 := m77.freezeN 10 rfl; clear m77
     have m79 := m78.freezeN 11 rfl; clear m78
     refine stepE_only 14 rfl (by kernel_rfl) rfl (fun K hK => ?_)
     refine e_litR Hz m79 300 (mm := 1) rfl (.cons rfl rfl (.cons (m79.rd (i := 9) rfl) .nil) <| .cons rfl rfl (.cons (m79.rd (i := 10) rfl) .nil) <| .cons rfl rfl (.cons (m79.rd (i := 11) rfl) .nil) <| .nil) Tryd.underlying71 inf26mpu rfl rfl rfl rfl rfl ?_
     clear Hz Az m79; intro g76 Az w80 Hz m80
     refine hK _ _ (m80.to ⟨il, trivial⟩) ?_; clear hK K
     have m81 := m80.freezeR 300 rfl; clear m80
     refine stepE_only 15 rfl (by kernel_rfl) rfl (fun K hK => ?_)
     refine e_call Hz Tryd.func14 rfl rfl rfl rfl (pjoin_is (ls := [preM m, enc (m.da.length : Int) ++ m.da, encs (tailL m)]) (S := bodyM m) ((m81.rd (i := 300) rfl).any) (by simp) (by simp only [sumLen, List.flatten_cons, List.flatten_nil, List.length_append, List.length_nil, List.length_cons]; omega) (by simp [bodyM])) ?_
     rintro e w82 ⟨p82, c82, rfl, ho82, hb82⟩
     have m83 := m81.newN 301 hb82 ho82
     clear m81
     clear hb82 ho82
     refine ⟨_, rfl, ?_⟩; clear Hz Az; intro Az Hz
     refine hK _ _ (m83.to ⟨il, trivial⟩) ?_; clear hK K
     have m85 := m83.freezeN 301 rfl; clear m83
     refine stepE_only 16 rfl (by kernel_rfl) rfl (fun K hK => ?_)
     refine e_call Hz Tryd.func13 rfl rfl rfl rfl (pseal_x _ (bodyM m) _ (hT.below m85.below h01) (Nat.le_trans h01 m85.below.size) ((m85.rd (i := 301) rfl).any) (bodyM_bytes hO hbb hda (by omega)) (by omega)) ?_
     rintro e w86 ⟨p86, c86, rfl, ho86, hb86⟩
     have m87 := m85.newN 302 hb86 ho86
     clear m85
     clear hb86 ho86
     refine ⟨_, rfl, ?_⟩; clear Hz Az; intro Az Hz
     refine hK _ _ (m87.to ⟨il, trivial⟩) ?_; clear hK K
     refine goA hP74 [17, 18] 2 131071 524287 Hz (m87.to ⟨il, trivial⟩) (.assign rfl <| .assign rfl <| .nil) ?_
     clear Hz Az; intro Az Hz
     refine wpAnyE_done (by kernel_rfl) ?_ _
     refine hK8 _ _ ?_; clear hK8; try clear K8
     refine wp_ret ?_
     try dsimp only [Exit.then, Exit.inBlock]
     refine (ret2 (fn := Tryd.f5) Hz rfl rfl rfl ?_)
     exact ⟨_, _, rfl, m87.ok 302 _ rfl, m87.below⟩
    refine goR hP74 [0, 1, 2, 4, 5, 6, 7, 8, 9, 10, 11] [2, 5, 7, 9, 11] 11 0 4087 Hz (m74.to ⟨il, trivial⟩) (.move rfl <| .fieldAddr (off := 14) rfl Tryd.underlying30 rfl (s := 0) (by kernel_rfl) rfl <| .loadB1 hh (i := 8) rfl rfl rfl Tryd.underlying26 rfl <| .fieldAddr (off := 15) rfl Tryd.underlying30 rfl (s := 0) (by kernel_rfl) rfl <| .loadB1 hh (i := 8) rfl rfl rfl Tryd.underlying3 rfl <| .fieldAddr (off := 16) rfl Tryd.underlying30 rfl (s := 0) (by kernel_rfl) rfl <| .loadB1 hh (i := 8) rfl rfl rfl Tryd.underlying3 rfl <| .fieldAddr (off := 17) rfl Tryd.underlying30 rfl (s := 0) (by kernel_rfl) rfl <| .loadB1 hh (i := 8) rfl rfl rfl Tryd.underlying2 rfl <| .fieldAddr (off := 18) rfl Tryd.underlying30 rfl (s := 0) (by kernel_rfl) rfl <| .loadB1 hh (i := 8) rfl rfl rfl Tryd.underlying2 rfl <| .nil) ?_
    clear Hz Az; intro Az Hz
    refine d_two 3 12 rfl rfl (by kernel_rfl) rfl rfl (fun K hK => ?_) (fun K hK => ?_)
    ·
     refine e_call Hz Tryd.func15 rfl rfl rfl rfl (plump_x m.da _ _ _ ((h4.now' m74 rfl).any) (by omega)) ?_
     rintro e w102 ⟨p102, c102, rfl, ho102, hb102⟩
     have m103 := m74.newN 200 hb102 ho102
     clear m74
     clear hb102 ho102
     refine ⟨_, rfl, ?_⟩; clear Hz Az; intro Az Hz
     refine hK _ _ (fun _ => (m103.to ⟨il, trivial⟩)) ?_; clear hK K
     refine stepE_only 12 rfl (by kernel_rfl) rfl (fun K hK => ?_)
     refine e_litN Hz m103 201 (k := .i64) rfl rfl Tryd.underlying25 inf3mpu rfl rfl rfl rfl ?_
     clear Hz Az m103; intro g105 Az w106 Hz m106
     refine hK _ _ (m106.to ⟨il, trivial⟩) ?_; clear hK K
     have m107 := m106.freezeN 201 rfl; clear m106
     refine stepE_only 13 rfl (by kernel_rfl) rfl (fun K hK => ?_)
     refine e_call Hz Tryd.func9 rfl rfl rfl rfl (pnums_x (tailL m) _ _ _ ((m107.rd (i := 201) rfl).any) (by simp [numsL, tailL]) (b63 (tailL_63 hO))) ?_
     rintro e w108 ⟨p108, c108, rfl, ho108, hb108⟩
     have m109 := m107.newN 202 hb108 ho108
     clear m107
     clear hb108 ho108
     refine ⟨_, rfl, ?_⟩; clear Hz Az; intro Az Hz
     refine hK _ _ (m109.to ⟨il, trivial⟩) ?_; clear hK K
     refine ldl 16383 ?_
     exact hD _ _ ⟨_, _, _, _, _, _, Hz.only [1, 62, 65, 75], m109.ren [(8, 8), (9, 9), (10, 200), (11, 202)] (by decide)⟩
    ·
     refine e_litN Hz m74 200 (k := .i64) rfl rfl Tryd.underlying25 inf3mpu rfl rfl rfl rfl ?_
     clear Hz Az m74; intro g111 Az w112 Hz m112
     refine hK _ _ (fun _ => (m112.to ⟨il, trivial⟩)) ?_; clear hK K
     refine stepE_only 3 rfl (by kernel_rfl) rfl (fun K hK => ?_)
     refine e_call Hz Tryd.func15 rfl rfl rfl rfl (plump_x m.da _ _ _ ((h4.now' m112 rfl).any) (by omega)) ?_
     rintro e w113 ⟨p113, c113, rfl, ho113, hb113⟩
     have m114 := m112.newN 201 hb113 ho113
     clear m112
     clear hb113 ho113
     refine ⟨_, rfl, ?_⟩; clear Hz Az; intro Az Hz
     refine hK _ _ (m114.to ⟨il, trivial⟩) ?_; clear hK K
     have m116 := m114.freezeN 200 rfl; clear m114
     refine stepE_only 13 rfl (by kernel_rfl) rfl (fun K hK => ?_)
     refine e_call Hz Tryd.func9 rfl rfl rfl rfl (pnums_x (tailL m) _ _ _ ((m116.rd (i := 200) rfl).any) (by simp [numsL, tailL]) (b63 (tailL_63 hO))) ?_
     rintro e w117 ⟨p117, c117, rfl, ho117, hb117⟩
     have m118 := m116.newN 202 hb117 ho117
     clear m116
     clear hb117 ho117
     refine ⟨_, rfl, ?_⟩; clear Hz Az; intro Az Hz
     refine hK _ _ (m118.to ⟨il, trivial⟩) ?_; clear hK K
     refine ldl 16383 ?_
     exact hD _ _ ⟨_, _, _, _, _, _, Hz.only [1, 62, 65, 75], m118.ren [(8, 8), (9, 9), (10, 201), (11, 202)] (by decide)⟩
  replace Hz : Has 79 [(1, _), (4, _), (37, _), (38, _), (7, _)] Az := Hz.only [1, 4, 37, 38, 7]
  refine regS Hz (.move rfl <| .nil) ?_
  clear Hz Az; intro Az Hz
  refine bool_cases Hz (t := 56) rfl ?_ ?_
  ·
   clear Hz; intro hb122 Hz
   try simp only [Q1x, Q2x, Q3x, Q4x, Q5x, Q6x, Q7x, Q8x, Q9x, Q0x, Qax, Qbx] at hb122
   have hk7 : m.k = 7 := by have := hb122; first | omega | (simp at this; omega)
   have hbm : baseM m = baseP m.bi m.bt m.cf m.bd := if_pos hk7
   have eP : encs (numsL m) ++ encs [bitI (decide (m.k = 7))] ++ baseP m.bi m.bt m.cf m.bd = preM m := by unfold preM; rw [hbm]
   refine wp_cond_true (Hz.ev (x := .tmp 56) rfl) ?_
   refine wp_region_lit ?_
   refine goCh Hz (.move rfl <| .fieldAddr (off := 10) rfl Tryd.underlying30 rfl (s := 3) (by kernel_rfl) rfl <| .loadBR m70 (i := 8) rfl rfl Tryd.underlying28 rfl sz28mpu (by simp) (by dsimp only [List.drop, List.take] <;> rfl) <| .nil) ?_
   clear Hz Az; intro Az Hz
   refine wpList_plain rfl (fun K hK => ?_)
   refine e_call Hz Tryd.func12 rfl rfl rfl rfl (basePut_x m.bi m.bt _ _ m.cf m.bd _ (((h2.now' m70 rfl).any).ns_out.nums) (((h3.now' m70 rfl).any).ns_out.nums) hcl) ?_
   rintro e w126 ⟨p126, c126, rfl, ho126, hb126⟩
   have m127 := m70.newN 102 hb126 ho126
   clear m70
   clear hb126 ho126
   refine ⟨_, rfl, ?_⟩; clear Hz Az; intro Az Hz
   refine hK _ _ ?_; clear hK K
   refine wpList_plain rfl (fun K hK => ?_)
   refine e_appN Hz m127 9 rfl rfl rfl (m127.numsO (i := 102) rfl) Tryd.underlying26 inf5mpu (by decide) (by rw [hbm] at hq3; simp only [List.length_append]; omega) rfl ?_
   clear Hz Az m127; intro p129 c129 Az w130 Hz m130
   refine hK _ _ ?_; clear hK K
   refine goCh Hz (.assign rfl .nil) ?_
   clear Hz Az; intro Az Hz
   refine wpList_nil ?_
   try rw [eP] at m130 Hz
   show K7 _ _
   exact hC7 _ _ ⟨_, _, _, Hz.only [1, 4], m130.ren [(8, 8), (9, 9)] (by decide)⟩
  ·
   clear Hz; intro hb122 Hz
   try simp only [Q1x, Q2x, Q3x, Q4x, Q5x, Q6x, Q7x, Q8x, Q9x, Q0x, Qax, Qbx] at hb122
   have hk7 : ¬ m.k = 7 := by have := hb122; first | omega | (simp at this; omega)
   have eP : encs (numsL m) ++ encs [bitI (decide (m.k = 7))] = preM m := by unfold preM baseM; rw [if_neg hk7, List.append_nil]
   rw [eP] at m70 Hz
   refine wp_cond_false (Hz.ev (x := .tmp 56) rfl) ?_
   refine wp_skip ?_
   try rw [eP] at m70 Hz
   show K7 _ _
   exact hC7 _ _ ⟨_, _, _, Hz.only [1, 4], m70.ren [(8, 8), (9, 9)] (by decide)⟩
end Go.Proofs.YtmoghepeggohhaaDoor.K
