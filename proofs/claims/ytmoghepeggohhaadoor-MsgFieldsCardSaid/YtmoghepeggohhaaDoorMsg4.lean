/- msg: pack's Reader and entry.ReadBase of their own bytes; the closures of take. -/
import Derived.Test.YtmoghepeggohhaaDoorMsg3
namespace Go.Proofs.YtmoghepeggohhaaDoor.K
open Go.ChangeShapes Go.WideShapes Go.ChangeAt Go.RowKit
set_option linter.unusedVariables false
set_option linter.unusedSimpArgs false

theorem inf26mrl : (Tryd.prog.info? 26).map (fun i => (i.zero, i.size, i.bytes)) = some (some (.slice none 0 0), 1, 24) := by kernel_rfl
theorem sz5mrl : (Tryd.prog.info? 5).map (·.size) = some 1 := by kernel_rfl
theorem sz26mrl : (Tryd.prog.info? 26).map (·.size) = some 1 := by kernel_rfl
theorem fl28mrb : flatS Tryd.prog 28 [.int .i64 0, .int .i64 0, .slice none 0 0, .slice none 0 0] = true := by kernel_rfl
theorem inf3mrb : (Tryd.prog.info? 3).map (fun i => (i.zero, i.size, i.bytes)) = some (some (.int .i64 0), 1, 8) := by kernel_rfl
theorem sz25mrb : (Tryd.prog.info? 25).map (·.size) = some 1 := by kernel_rfl
theorem sz26mrb : (Tryd.prog.info? 26).map (·.size) = some 1 := by kernel_rfl
theorem sz28mrb : (Tryd.prog.info? 28).map (·.size) = some 4 := by kernel_rfl
theorem zc28mrb : ((Tryd.prog.info? 28).bind (·.zero)).map (·.cells.toList) = some [.int .i64 0, .int .i64 0, .slice none 0 0, .slice none 0 0] := by kernel_rfl



set_option maxRecDepth 100000
set_option maxHeartbeats 4000000
theorem bytes_r {a b : List Int} (h : BytesL (a ++ b)) : BytesL b := fun x hx => h x (List.mem_append_right _ hx)
theorem encs_drop {l : List Int} {k : Nat} (hk : k < l.length) : encs (l.drop k) = enc (l.getD k 0) ++ encs (l.drop (k + 1)) := by
 rw [List.drop_eq_getElem_cons hk, encs_cons, List.getD, List.getElem?_eq_getElem hk]; rfl
theorem take_getD {l : List Int} {k : Nat} (hk : k < l.length) : l.take (k + 1) = l.take k ++ [l.getD k 0] := by
 rw [List.take_add_one, List.getD, List.getElem?_eq_getElem hk]; rfl
theorem pnum_ok (X : Cx) (B : Nat) (b : List Int) (mx : Int) (p : Option Addr) (c : Nat) (w0 : World) (x : Int) (rest : List Int) (hb : b.length ≤ 1000000) (hbb : BytesL b) (hbe : b = enc x ++ rest) (hmx : mx ≤ 18446744073709551615) (hx : 0 ≤ x ∧ x ≤ mx) (m0 : MemOk X w0 [(1, .box B 85 [.slice p (b).length c, .int .i64 0]), (2, .dat (.slice p (b).length c) (.ns .u8 (b)))] w0) :
   Calls Tryd.prog 35 #[.pointer (some ⟨B, 0, none⟩), .int .u64 mx] w0 fun e w' => ∃ (p' : Option Addr) (c' : Nat), e = .returned (.int .u64 x) ∧ MemOk X w0 [(1, .box B 85 [.slice p' (rest).length c', .int .i64 0]), (2, .dat (.slice p' (rest).length c') (.ns .u8 (rest)))] w' := by
 have hN : numR b 0 mx = (x, rest, 0) := by rw [hbe]; exact numR_own rest hx.1 hx.2 hmx
 exact pnum_e hN X B p c w0 hb hbb m0
theorem rdlump_ok (X : Cx) (B : Nat) (b : List Int) (mx : Int) (p : Option Addr) (c : Nat) (w0 : World) (d rest : List Int) (hb : b.length ≤ 1000000) (hbb : BytesL b) (hbe : b = enc (d.length : Int) ++ (d ++ rest)) (hmx : mx ≤ 1000000) (hx : (d.length : Int) ≤ mx) (m0 : MemOk X w0 [(1, .box B 85 [.slice p (b).length c, .int .i64 0]), (2, .dat (.slice p (b).length c) (.ns .u8 (b)))] w0) :
   Calls Tryd.prog 39 #[.pointer (some ⟨B, 0, none⟩), .int .i64 mx] w0 fun e w' => ∃ (p' : Option Addr) (c' : Nat) (p3 : Option Addr) (c3 : Nat), e = .returned (.slice p3 d.length c3) ∧ MemOk X w0 [(1, .box B 85 [.slice p' (rest).length c', .int .i64 0]), (2, .dat (.slice p' (rest).length c') (.ns .u8 (rest))), (3, .dat (.slice p3 d.length c3) (.ns .u8 d))] w' := by
 refine enter (fn := Tryd.f39) Tryd.func39 rfl Tryd.ntmps39 rfl (fun Az Hz => ?_)
 simp only [List.zipIdx_cons, List.zipIdx_nil, List.map_cons, List.map_nil, Nat.reduceAdd, Nat.zero_add] at Hz
 have hun : d.length ≤ (d ++ rest).length := by rw [List.length_append]; omega
 have hdl : (d ++ rest).length ≤ 1000000 := by rw [hbe, List.length_append] at hb; omega
 refine regS Hz (.assign rfl <| .nil) ?_
 clear Hz Az; intro Az Hz
 refine wp_seq_k (fun K0 hK0 => ?_)
 refine wp_region_lit ?_
 refine goCh Hz (.move rfl <| .move rfl <| .c rfl (fun _ h_ => y_max h_ rfl rfl (r := mx) (by omega)) <| .conv rfl Tryd.underlying3 Tryd.underlying66 (r := mx) (IntWalk.u64_in _ (by omega)) <| .nil) ?_
 clear Hz Az; intro Az Hz
 refine wpList_plain rfl (fun K hK => ?_)
 refine e_call Hz Tryd.func35 rfl rfl rfl rfl (pnum_ok _ _ _ mx _ _ _ (d.length : Int) (d ++ rest) hb hbb hbe (by omega) (by omega) (m0.into [(1, 1), (2, 2)] (by decide) rfl)) ?_
 rintro e w10 ⟨p10, c10, rfl, hm10⟩
 have mx10 := m0.back hm10 [(1, 1), (2, 2)] (by decide); clear hm10 m0
 have m10 : MemOk _ _ [(1, _), (2, _)] _ := mx10.only [1, 2]; clear mx10
 refine ⟨_, rfl, ?_⟩; clear Hz Az; intro Az Hz
 refine hK _ _ ?_; clear hK K
 refine goCh Hz (.assign rfl .nil) ?_
 clear Hz Az; intro Az Hz
 refine wpList_nil ?_
 refine hK0 _ _ ?_; clear hK0; try clear K0
 refine wp_seq_k (fun K1 hK1 => ?_)
 replace Hz : Has 52 [(0, _), (4, _), (5, _)] Az := Hz.only [0, 4, 5]
 refine regS Hz (.move rfl <| .nilCheck rfl <| .fieldAddr (off := 0) rfl Tryd.underlying85 rfl (s := 1) (by kernel_rfl) rfl <| .fieldAddr (off := 1) rfl Tryd.underlying83 rfl (s := 0) (by kernel_rfl) rfl <| .loadB1 m10 (i := 1) rfl rfl rfl Tryd.underlying31 rfl <| .neq rfl rfl <| .nil) ?_
 clear Hz Az; intro Az Hz
 refine bool_cases Hz (t := 17) rfl ?_ ?_
 · intro hb _; exact absurd hb (by simp)
 clear Hz; intro _ Hz
 refine wp_cond_false (Hz.ev (x := .tmp 17) rfl) ?_
 refine wp_skip ?_
 refine hK1 _ _ ?_; clear hK1; try clear K1
 refine wp_seq_k (fun K2 hK2 => ?_)
 replace Hz : Has 52 [(0, _), (4, _), (5, _)] Az := Hz.only [0, 4, 5]
 refine regS Hz (.move rfl <| .move rfl <| .nilCheck rfl <| .fieldAddr (off := 0) rfl Tryd.underlying85 rfl (s := 1) (by kernel_rfl) rfl <| .fieldAddr (off := 0) rfl Tryd.underlying83 rfl (s := 0) (by kernel_rfl) rfl <| .loadB1 m10 (i := 1) rfl rfl rfl Tryd.underlying26 rfl <| .len rfl Tryd.underlying26 <| .conv rfl Tryd.underlying3 Tryd.underlying66 (r := ((d ++ rest).length : Int)) (IntWalk.u64_in _ (by omega)) <| .gtr rfl rfl <| .nil) ?_
 clear Hz Az; intro Az Hz
 refine bool_cases Hz (t := 26) rfl ?_ ?_
 · intro hb _; exact absurd hb (by rw [decide_eq_true_eq, List.length_append]; omega)
 clear Hz; intro _ Hz
 refine wp_cond_false (Hz.ev (x := .tmp 26) rfl) ?_
 refine wp_skip ?_
 refine hK2 _ _ ?_; clear hK2; try clear K2
 replace Hz : Has 52 [(0, _), (4, _), (5, _)] Az := Hz.only [0, 4, 5]
 refine wp_seq_k (fun K3 hK3 => ?_)
 refine wp_region_lit ?_
 refine goCh Hz (.move rfl <| .nilCheck rfl <| .fieldAddr (off := 0) rfl Tryd.underlying85 rfl (s := 1) (by kernel_rfl) rfl <| .fieldAddr (off := 0) rfl Tryd.underlying83 rfl (s := 0) (by kernel_rfl) rfl <| .loadB1 m10 (i := 1) rfl rfl rfl Tryd.underlying26 rfl <| .move rfl <| .nil) ?_
 clear Hz Az; intro Az Hz
 have hcap46 := (m10.rd (i := 2) rfl).ns_out.cap
 have m46 := m10.takeN (i := 2) rfl d.length hun 20 rfl; clear m10
 refine goCh Hz (.c rfl (fun _ h_ => y_sliceHn h_ d.length rfl rfl Tryd.underlying26 sz5mrl rfl (Nat.le_trans hun hcap46.1)) .nil) ?_
 clear Hz Az; intro Az Hz
 refine wpList_plain rfl (fun K hK => ?_)
 refine e_litR Hz m46 21 (mm := 1) rfl (.cons rfl rfl (.cons (m46.rd (i := 20) rfl) .nil) <| .nil) Tryd.underlying71 inf26mrl rfl rfl rfl rfl rfl ?_
 clear Hz Az m46; intro g48 Az w49 Hz m49
 refine hK _ _ ?_; clear hK K
 have m50 := m49.freezeR 21 rfl; clear m49
 refine wpList_plain rfl (fun K hK => ?_)
 refine e_call Hz Tryd.func14 rfl rfl rfl rfl (pjoin_is (ls := [(d ++ rest).take d.length]) (S := d) ((m50.rd (i := 21) rfl).any) (by simp) (by simp [sumLen]; omega) (by simp)) ?_
 rintro e w51 ⟨p51, c51, rfl, ho51, hb51⟩
 have m52 := m50.newN 22 hb51 ho51
 clear m50
 clear hb51 ho51
 refine ⟨_, rfl, ?_⟩; clear Hz Az; intro Az Hz
 refine hK _ _ ?_; clear hK K
 refine goCh Hz (.assign rfl .nil) ?_
 clear Hz Az; intro Az Hz
 refine wpList_nil ?_
 refine hK3 _ _ ?_; clear hK3; try clear K3
 replace Hz : Has 52 [(0, _), (4, _), (5, _), (6, _)] Az := Hz.only [0, 4, 5, 6]
 refine wp_seq_k (fun K4 hK4 => ?_)
 refine wp_region_lit ?_
 refine goCh Hz (.move rfl <| .move rfl <| .nilCheck rfl <| .fieldAddr (off := 0) rfl Tryd.underlying85 rfl (s := 1) (by kernel_rfl) rfl <| .fieldAddr (off := 0) rfl Tryd.underlying83 rfl (s := 0) (by kernel_rfl) rfl <| .loadB1 m52 (i := 1) rfl rfl rfl Tryd.underlying26 rfl <| .move rfl <| .nil) ?_
 clear Hz Az; intro Az Hz
 have m71 := m52.dropN (i := 2) rfl d.length hun 23 rfl; clear m52
 refine goCh Hz (.c rfl (fun _ h_ => y_sliceLn h_ d.length rfl rfl Tryd.underlying26 sz5mrl rfl hun) <| .nilCheck rfl <| .fieldAddr (off := 0) rfl Tryd.underlying85 rfl (s := 1) (by kernel_rfl) rfl <| .fieldAddr (off := 0) rfl Tryd.underlying83 rfl (s := 0) (by kernel_rfl) rfl <| .nil) ?_
 clear Hz Az; intro Az Hz
 refine wpList_plain rfl (fun K hK => ?_)
 refine e_store1 Hz m71 1 rfl rfl rfl rfl rfl sz26mrl (by dsimp only [List.set] <;> rfl) ?_
 clear m71; intro w76 m76 hB76
 clear hB76
 refine hK _ _ ?_; clear hK K
 refine wpList_nil ?_
 refine hK4 _ _ ?_; clear hK4; try clear K4
 replace Hz : Has 52 [(4, _), (6, _)] Az := Hz.only [4, 6]
 refine regS Hz (.move rfl <| .assign rfl <| .nil) ?_
 clear Hz Az; intro Az Hz
 refine wp_ret ?_
 try dsimp only [Exit.then, Exit.inBlock]
 refine (ret1 (fn := Tryd.f39) Hz rfl rfl ?_)
 have e2 : (d ++ rest).drop d.length = rest := List.drop_left
 have e3 : (d ++ rest).length - d.length = rest.length := by rw [List.length_append]; omega
 rw [e2, e3] at m76
 have m80 := m76.freezeN 22 rfl; clear m76
 exact ⟨_, _, _, _, rfl, m80.ren [(1, 1), (2, 23), (3, 22)] (by decide)⟩
theorem baseR_yes (i t : Int) (vc vd : Value) (cf d : List Int) (w : World) (hc : IsNums .i64 w vc cf) (hv : IsNums .u8 w vd d) (hl : cf.length ≤ 900) (hB : baseOk i t cf d = true) :
   Calls Tryd.prog 30 #[baseV i t vc vd] w fun e w' => e = .returned (.bool true) ∧ Below w.heap.size w w' := hB ▸ baseRight_any i t vc vd cf d w hc hv hl
theorem rdbase_ok (X : Cx) (B : Nat) (bi bt : Int) (cf bd b0 b1 b2 b4 b6 : List Int) (p : Option Addr) (c : Nat) (w0 : World) (hB : baseOk bi bt cf bd = true) (hl0 : b0.length ≤ 1000000) (hy0 : BytesL b0) (h0 : b0 = enc bi ++ b1) (h1 : b1 = enc bt ++ b2) (h2 : b2 = enc (cf.length : Int) ++ (encs cf ++ b4)) (h4 : b4 = enc (bd.length : Int) ++ (bd ++ b6)) (m0 : MemOk X w0 [(1, .box B 85 [.slice p (b0).length c, .int .i64 0]), (2, .dat (.slice p (b0).length c) (.ns .u8 (b0)))] w0) :
   Calls Tryd.prog 38 #[.pointer (some ⟨B, 0, none⟩)] w0 fun e w' => ∃ (p' : Option Addr) (c' : Nat) (p3 : Option Addr) (c3 : Nat) (p4 : Option Addr) (c4 : Nat), e = .returned (.tuple #[.agg #[.int .i64 bi, .int .i64 bt, .slice p3 cf.length c3, .slice p4 bd.length c4], .bool true]) ∧ MemOk X w0 [(1, .box B 85 [.slice p' (b6).length c', .int .i64 0]), (2, .dat (.slice p' (b6).length c') (.ns .u8 (b6))), (3, .dat (.slice p3 cf.length c3) (.ns .i64 cf)), (4, .dat (.slice p4 bd.length c4) (.ns .u8 bd))] w' := by
 obtain ⟨hbi, hbt, hcr, hbl⟩ := baseOk_bd hB
 obtain ⟨hcl, hpb⟩ := right_bd hcr
 have hl1 : b1.length ≤ 1000000 := by rw [h0, List.length_append] at hl0; omega
 have hl2 : b2.length ≤ 1000000 := by rw [h1, List.length_append] at hl1; omega
 have hl3 : (encs cf ++ b4).length ≤ 1000000 := by rw [h2, List.length_append] at hl2; omega
 have hl4 : b4.length ≤ 1000000 := by rw [List.length_append] at hl3; omega
 have hy1 : BytesL b1 := bytes_r (h0 ▸ hy0)
 have hy2 : BytesL b2 := bytes_r (h1 ▸ hy1)
 have hy3 : BytesL (encs cf ++ b4) := bytes_r (h2 ▸ hy2)
 have hy4 : BytesL b4 := bytes_r hy3
 refine enter (fn := Tryd.f38) Tryd.func38 rfl Tryd.ntmps38 rfl (fun Az Hz => ?_)
 simp only [List.zipIdx_cons, List.zipIdx_nil, List.map_cons, List.map_nil, Nat.reduceAdd, Nat.zero_add] at Hz
 refine wp_seq_k (fun K0 hK0 => ?_)
 refine wp_region_lit ?_
 refine wpList_plain rfl (fun K hK => ?_)
 refine e_alloc Hz m0 20 zc28mrb rfl ?_
 clear Hz Az m0; intro g1 Az w2 Hz m2 hB2 hg2
 clear hB2 hg2
 refine hK _ _ ?_; clear hK K
 refine goCh Hz (.assign rfl .nil) ?_
 clear Hz Az; intro Az Hz
 refine wpList_nil ?_
 refine hK0 _ _ ?_; clear hK0; try clear K0
 refine wp_seq_k (fun K1 hK1 => ?_)
 refine regS Hz (.move rfl <| .eqlP rfl rfl Tryd.underlying51 <| .nil) ?_
 clear Hz Az; intro Az Hz
 refine bool_cases Hz (t := 6) rfl ?_ ?_
 · intro hb _; exact absurd hb (by simp)
 clear Hz; intro _ Hz
 refine wp_cond_false (Hz.ev (x := .tmp 6) rfl) ?_
 refine wp_skip ?_
 refine hK1 _ _ ?_; clear hK1; try clear K1
 refine wp_seq_k (fun K2 hK2 => ?_)
 refine wp_region_lit ?_
 refine goCh Hz (.move rfl .nil) ?_
 clear Hz Az; intro Az Hz
 refine wpList_plain rfl (fun K hK => ?_)
 refine e_call Hz Tryd.func35 rfl rfl rfl rfl (pnum_ok _ _ _ 1099511627776 _ _ _ bi b1 hl0 hy0 h0 (by omega) (by omega) (m2.into [(1, 1), (2, 2)] (by decide) rfl)) ?_
 rintro e w9 ⟨p9, c9, rfl, hm9⟩
 have mx9 := m2.back hm9 [(1, 1), (2, 2)] (by decide); clear hm9 m2
 have m9 : MemOk _ _ [(1, _), (2, _), (20, _)] _ := mx9.only [1, 2, 20]; clear mx9
 refine ⟨_, rfl, ?_⟩; clear Hz Az; intro Az Hz
 refine hK _ _ ?_; clear hK K
 refine goCh Hz (.conv rfl Tryd.underlying66 Tryd.underlying3 (r := bi) (IntWalk.i64_in _ (by omega)) <| .move rfl <| .nil) ?_
 clear Hz Az; intro Az Hz
 refine wpList_plain rfl (fun K hK => ?_)
 refine e_call Hz Tryd.func35 rfl rfl rfl rfl (pnum_ok _ _ _ 1099511627776 _ _ _ bt b2 hl1 hy1 h1 (by omega) (by omega) (m9.into [(1, 1), (2, 2)] (by decide) rfl)) ?_
 rintro e w13 ⟨p13, c13, rfl, hm13⟩
 have mx13 := m9.back hm13 [(1, 1), (2, 2)] (by decide); clear hm13 m9
 have m13 : MemOk _ _ [(1, _), (2, _), (20, _)] _ := mx13.only [1, 2, 20]; clear mx13
 refine ⟨_, rfl, ?_⟩; clear Hz Az; intro Az Hz
 refine hK _ _ ?_; clear hK K
 refine goCh Hz (.conv rfl Tryd.underlying66 Tryd.underlying3 (r := bt) (IntWalk.i64_in _ (by omega)) <| .build rfl zc28mrb fl28mrb rfl (by dsimp only [setL, List.set] <;> rfl) <| .nil) ?_
 clear Hz Az; intro Az Hz
 refine wpList_plain rfl (fun K hK => ?_)
 refine e_alloc Hz m13 21 zc28mrb rfl ?_
 clear Hz Az m13; intro g17 Az w18 Hz m18 hB18 hg18
 clear hB18 hg18
 refine hK _ _ ?_; clear hK K
 refine wpList_plain rfl (fun K hK => ?_)
 refine e_storeW Hz m18 21 rfl rfl rfl rfl rfl sz28mrb ?_
 clear m18; intro w19 m19 hB19
 clear hB19
 refine hK _ _ ?_; clear hK K
 refine wpList_nil ?_
 refine hK2 _ _ ?_; clear hK2; try clear K2
 refine wp_seq_k (fun K3 hK3 => ?_)
 replace Hz : Has 41 [(0, _), (2, _), (3, _), (4, _)] Az := Hz.only [0, 2, 3, 4]
 refine wp_seq_k (fun K4 hK4 => ?_)
 refine wp_region_lit ?_
 refine goCh Hz (.move rfl .nil) ?_
 clear Hz Az; intro Az Hz
 refine wpList_plain rfl (fun K hK => ?_)
 refine e_call Hz Tryd.func35 rfl rfl rfl rfl (pnum_ok _ _ _ 7 _ _ _ (cf.length : Int) (encs cf ++ b4) hl2 hy2 h2 (by omega) (by omega) (m19.into [(1, 1), (2, 2)] (by decide) rfl)) ?_
 rintro e w23 ⟨p23, c23, rfl, hm23⟩
 have mx23 := m19.back hm23 [(1, 1), (2, 2)] (by decide); clear hm23 m19
 have m23 : MemOk _ _ [(1, _), (2, _), (20, _), (21, _)] _ := mx23.only [1, 2, 20, 21]; clear mx23
 refine ⟨_, rfl, ?_⟩; clear Hz Az; intro Az Hz
 refine hK _ _ ?_; clear hK K
 refine goCh Hz (.move rfl .nil) ?_
 clear Hz Az; intro Az Hz
 refine wpList_nil ?_
 refine hK4 _ _ ?_; clear hK4; try clear K4
 refine wp_block ?_
 refine wp_loop_ghost (fun g a w => ∃ (k Bb Br : Nat) (p1 : Option Addr) (c1 : Nat) (p3 : Option Addr) (c3 : Nat), k ≤ cf.length ∧ g = cf.length - k ∧ (encs (cf.drop k) ++ b4).length ≤ 1000000 ∧ BytesL (encs (cf.drop k) ++ b4) ∧ Has 41 [(0, .pointer (some ⟨B, 0, none⟩)), (2, .pointer (some ⟨Br, 0, none⟩)), (4, .pointer (some ⟨Bb, 0, none⟩)), (16, .int .u64 (cf.length : Int)), (17, .int .u64 (k : Int))] a ∧ MemOk X w0 [(1, .box B 85 [.slice p1 (encs (cf.drop k) ++ b4).length c1, .int .i64 0]), (2, .dat (.slice p1 (encs (cf.drop k) ++ b4).length c1) (.ns .u8 (encs (cf.drop k) ++ b4))), (8, .box Bb 28 [.int .i64 bi, .int .i64 bt, .slice p3 (cf.take k).length c3, .slice none 0 0]), (7, .box Br 28 [.int .i64 0, .int .i64 0, .slice none 0 0, .slice none 0 0]), (9, .num (.slice p3 (cf.take k).length c3) 3 .i64 (cf.take k))] w) (cf.length) ?_ ?_
 · have mz := m23.nilN 9 3 .i64
   exact ⟨0, _, _, _, _, _, _, Nat.zero_le _, rfl, by rw [List.drop_zero]; exact hl3, by rw [List.drop_zero]; exact hy3, Hz.only [0, 2, 4, 16, 17], mz.ren [(1, 1), (2, 2), (8, 21), (7, 20), (9, 9)] (by decide)⟩
 ·
  clear Hz m23
  rintro g Az w26 ⟨k, Bb, Br, p1, c1, p3, c3, hkl, hg, hb1, hbb1, Hz, m26⟩
  refine regS Hz (.lss rfl rfl <| .nil) ?_
  clear Hz Az; intro Az Hz
  refine wp_seq_k (fun K5 hK5 => ?_)
  refine bool_cases Hz (t := 18) rfl ?_ ?_
  ·
   clear Hz; intro hb28 Hz
   try simp only [Q1x, Q2x, Q3x, Q4x, Q5x, Q6x, Q7x, Q8x, Q9x, Q0x, Qax, Qbx] at hb28
   have hk : k < cf.length := by have := hb28; first | omega | (simp at this; omega)
   refine wp_cond_true (Hz.ev (x := .tmp 18) rfl) ?_
   refine wp_skip ?_
   refine hK5 _ _ ?_; clear hK5; try clear K5
   refine wp_seq_k (fun K6 hK6 => ?_)
   refine wp_block ?_
   have m29 : MemOk _ _ [(1, _), (2, _), (7, _), (8, _), (9, _)] _ := m26.only [1, 2, 7, 8, 9]; clear m26
   refine region_p 6 (B := [(8, _)]) (m29.to ⟨il, trivial⟩) m29 (by kernel_rfl) (fun w30 hP30 m30 => ?_); clear m29
   refine goR hP30 [0, 1, 2] [1] 3 0 7 Hz (m30.to ⟨il, trivial⟩) (.fieldAddr (off := 2) rfl Tryd.underlying28 rfl (s := 0) (by kernel_rfl) rfl <| .loadB1 hh (i := 8) rfl rfl rfl Tryd.underlying25 rfl <| .move rfl <| .nil) ?_
   clear Hz Az; intro Az Hz
   refine stepE_only 3 rfl (by kernel_rfl) rfl (fun K hK => ?_)
   refine e_call Hz Tryd.func35 rfl rfl rfl rfl (pnum_ok _ _ _ 6 _ _ _ (cf.getD k 0) (encs (cf.drop (k + 1)) ++ b4) hb1 hbb1 (by rw [encs_drop hk, List.append_assoc]) (by omega) (hpb k hk) (m30.into [(1, 1), (2, 2)] (by decide) rfl)) ?_
   rintro e w34 ⟨p34, c34, rfl, hm34⟩
   have mx34 := m30.back hm34 [(1, 1), (2, 2)] (by decide); clear hm34 m30
   have m34 : MemOk _ _ [(1, _), (2, _), (7, _), (8, _), (9, _)] _ := mx34.only [1, 2, 7, 8, 9]; clear mx34
   refine ⟨_, rfl, ?_⟩; clear Hz Az; intro Az Hz
   refine hK _ _ (m34.to ⟨il, trivial⟩) ?_; clear hK K
   refine goA hP30 [4] 1 15 31 Hz (m34.to ⟨il, trivial⟩) (.conv rfl Tryd.underlying66 Tryd.underlying3 (r := cf.getD k 0) (IntWalk.i64_in _ (by have := hpb k hk; omega)) <| .nil) ?_
   clear Hz Az; intro Az Hz
   refine stepE_only 5 rfl (by kernel_rfl) rfl (fun K hK => ?_)
   refine e_litN Hz m34 100 (k := .i64) rfl rfl Tryd.underlying25 inf3mrb rfl rfl rfl rfl ?_
   clear Hz Az m34; intro g37 Az w38 Hz m38
   refine hK _ _ (m38.to ⟨il, trivial⟩) ?_; clear hK K
   refine stepE_end 6 rfl (by kernel_rfl) rfl (by rfl) (fun K hK => ?_)
   refine e_appN Hz m38 9 rfl rfl rfl (m38.numsO (i := 100) rfl) Tryd.underlying25 inf3mrb (by decide) (by simp; omega) rfl ?_
   clear Hz Az m38; intro p39 c39 Az w40 Hz m40
   refine hK _ _ ?_; clear hK K
   refine goB hP30 [7] 1 127 255 Hz (.fieldAddr (off := 2) rfl Tryd.underlying28 rfl (s := 0) (by kernel_rfl) rfl <| .nil) ?_
   clear Hz Az; intro Az Hz
   refine stepE_end 8 rfl (by kernel_rfl) rfl (by rfl) (fun K hK => ?_)
   refine e_store1 Hz m40 8 rfl rfl rfl rfl rfl sz25mrb (by dsimp only [List.set] <;> rfl) ?_
   clear m40; intro w42 m42 hB42
   clear hB42
   refine hK _ _ ?_; clear hK K
   refine wpAnyE_done (by kernel_rfl) ?_ _
   refine hK6 _ _ ?_; clear hK6; try clear K6
   replace Hz : Has 41 [(0, _), (2, _), (4, _), (16, _), (17, _)] Az := Hz.only [0, 2, 4, 16, 17]
   refine wp_region_lit ?_
   refine goCh Hz (.add rfl rfl (r := ((k + 1 : Nat) : Int)) (by rw [IntWalk.u64_in _ (by omega)]; omega) <| .move rfl <| .nil) ?_
   clear Hz Az; intro Az Hz
   refine wpList_nil ?_
   show ∃ n', n' < _ ∧ _
   have hE : cf.take k ++ [cf.getD k 0] = cf.take (k + 1) := (take_getD hk).symm
   rw [hE] at m42
   exact ⟨cf.length - (k + 1), by omega, k + 1, _, _, _, _, _, _, by omega, rfl, by rw [encs_drop hk, List.append_assoc, List.length_append] at hb1; omega, bytes_r (by rw [encs_drop hk, List.append_assoc] at hbb1; exact hbb1), Hz.only [0, 2, 4, 16, 17], m42.ren [(1, 1), (2, 2), (8, 8), (7, 7), (9, 9)] (by decide)⟩
  ·
   clear Hz; intro hb28 Hz
   try simp only [Q1x, Q2x, Q3x, Q4x, Q5x, Q6x, Q7x, Q8x, Q9x, Q0x, Qax, Qbx] at hb28
   obtain rfl : k = cf.length := by have := hb28; first | omega | (simp at this; omega)
   rw [List.drop_length, show encs [] ++ b4 = b4 from rfl, List.take_length] at m26
   refine wp_cond_false (Hz.ev (x := .tmp 18) rfl) ?_
   refine wp_exit ?_
   refine hK3 _ _ ?_; clear hK3; try clear K3
   refine wp_seq_k (fun K7 hK7 => ?_)
   refine wp_region_lit ?_
   refine goCh Hz (.move rfl .nil) ?_
   clear Hz Az; intro Az Hz
   refine wpList_plain rfl (fun K hK => ?_)
   refine e_call Hz Tryd.func39 rfl rfl rfl rfl (rdlump_ok _ _ _ 32767 _ _ _ bd b6 hl4 hy4 h4 (by omega) (by omega) (m26.into [(1, 1), (2, 2)] (by decide) rfl)) ?_
   rintro e w48 ⟨p48, c48, p348, c348, rfl, hm48⟩
   have mx48 := m26.back hm48 [(1, 1), (2, 2), (100, 3)] (by decide); clear hm48 m26
   have m48 : MemOk _ _ [(1, _), (2, _), (100, _), (7, _), (8, _), (9, _)] _ := mx48.only [1, 2, 100, 7, 8, 9]; clear mx48
   refine ⟨_, rfl, ?_⟩; clear Hz Az; intro Az Hz
   refine hK _ _ ?_; clear hK K
   refine goCh Hz (.fieldAddr (off := 3) rfl Tryd.underlying28 rfl (s := 0) (by kernel_rfl) rfl .nil) ?_
   clear Hz Az; intro Az Hz
   refine wpList_plain rfl (fun K hK => ?_)
   refine e_store1 Hz m48 8 rfl rfl rfl rfl rfl sz26mrb (by dsimp only [List.set] <;> rfl) ?_
   clear m48; intro w51 m51 hB51
   clear hB51
   refine hK _ _ ?_; clear hK K
   refine wpList_nil ?_
   refine hK7 _ _ ?_; clear hK7; try clear K7
   refine wp_seq_k (fun K8 hK8 => ?_)
   refine wp_seq_k (fun K9 hK9 => ?_)
   refine wp_region_lit ?_
   refine goCh Hz (.move rfl .nil) ?_
   clear Hz Az; intro Az Hz
   refine wpList_plain rfl (fun K hK => ?_)
   refine e_call Hz Tryd.func40 rfl rfl rfl rfl (perr_x _ _ _ _ _ _ _ (m51.into [(1, 1), (2, 2)] (by decide) rfl)) ?_
   rintro e w54 ⟨rfl, hm54⟩
   have mx54 := m51.back hm54 [(1, 1), (2, 2)] (by decide); clear hm54 m51
   have m54 : MemOk _ _ [(1, _), (2, _), (7, _), (8, _), (9, _), (100, _)] _ := mx54.only [1, 2, 7, 8, 9, 100]; clear mx54
   refine ⟨_, rfl, ?_⟩; clear Hz Az; intro Az Hz
   refine hK _ _ ?_; clear hK K
   refine goCh Hz (.neq rfl rfl <| .move rfl <| .nil) ?_
   clear Hz Az; intro Az Hz
   refine bool_cases Hz (t := 34) rfl ?_ ?_
   · intro hb _; exact absurd hb (by simp)
   clear Hz; intro _ Hz
   refine goCh Hz (.loadBRZ m54 (i := 8) rfl rfl Tryd.underlying28 rfl sz28mrb (by simp) (by dsimp only [List.drop, List.take] <;> rfl) .nil) ?_
   clear Hz Az; intro Az Hz
   have m60 := m54.freezeN 9 rfl; clear m54
   refine st_ge Hz rfl rfl rfl rfl (fun K hK => ?_)
   refine e_call Hz Tryd.func30 rfl rfl rfl rfl (baseR_yes bi bt _ _ cf bd _ (((m60.rd (i := 9) rfl).any).ns_out.nums) (((m60.rd (i := 100) rfl).any).ns_out.nums) (by omega) hB) ?_
   rintro e w61 ⟨rfl, hb61⟩
   have m62 := m60.later hb61
   clear m60
   clear hb61
   refine ⟨_, rfl, ?_⟩; clear Hz Az; intro Az Hz
   refine hK _ _ ?_; clear hK K
   refine goCh Hz (.notZ rfl <| .pickF rfl rfl <| .nil) ?_
   clear Hz Az; intro Az Hz
   refine wpList_nil ?_
   refine hK9 _ _ ?_; clear hK9; try clear K9
   refine wp_cond_false (Hz.ev (x := .tmp 38) rfl) ?_
   refine wp_skip ?_
   refine hK8 _ _ ?_; clear hK8; try clear K8
   replace Hz : Has 41 [(0, _), (2, _), (4, _), (16, _), (17, _), (28, _), (34, _)] Az := Hz.only [0, 2, 4, 16, 17, 28, 34]
   refine wp_seq_k (fun K10 hK10 => ?_)
   refine wp_region_lit ?_
   refine goCh Hz (.loadBR m62 (i := 8) rfl rfl Tryd.underlying28 rfl sz28mrb (by simp) (by dsimp only [List.drop, List.take] <;> rfl) .nil) ?_
   clear Hz Az; intro Az Hz
   refine wpList_plain rfl (fun K hK => ?_)
   refine e_storeW Hz m62 7 rfl rfl rfl rfl rfl sz28mrb ?_
   clear m62; intro w69 m69 hB69
   clear hB69
   refine hK _ _ ?_; clear hK K
   refine goCh Hz (.assign rfl .nil) ?_
   clear Hz Az; intro Az Hz
   refine wpList_nil ?_
   refine hK10 _ _ ?_; clear hK10; try clear K10
   refine wp_ret ?_
   try dsimp only [Exit.then, Exit.inBlock]
   refine (retCT (fn := Tryd.f38) Hz m69 (i := 7) rfl rfl rfl rfl Tryd.underlying28 rfl sz28mrb ?_)
   exact ⟨_, _, _, _, _, _, rfl, m69.ren [(1, 1), (2, 2), (3, 9), (4, 100)] (by decide)⟩
theorem num_c (X : Cx) (B gR : Nat) (b : List Int) (en : Int) (p : Option Addr) (c : Nat) (w0 : World) (x : Int) (rest : List Int) (hb : b.length ≤ 1000000) (hbb : BytesL b) (hbe : b = enc x ++ rest) (hmx : 1 ≤ en ∧ en ≤ 1000000) (hx : 0 ≤ x ∧ x < en) (m0 : MemOk X w0 [(1, .box B 85 [.slice p (b).length c, .int .i64 0]), (2, .dat (.slice p (b).length c) (.ns .u8 (b))), (3, .box gR 51 [.pointer (some ⟨B, 0, none⟩)])] w0) :
   Calls Tryd.prog 34 #[.int .i64 en, .pointer (some ⟨gR, 0, none⟩)] w0 fun e w' => ∃ (p' : Option Addr) (c' : Nat), e = .returned (.int .i64 x) ∧ MemOk X w0 [(1, .box B 85 [.slice p' (rest).length c', .int .i64 0]), (2, .dat (.slice p' (rest).length c') (.ns .u8 (rest))), (3, .box gR 51 [.pointer (some ⟨B, 0, none⟩)])] w' := by
 refine enter (fn := Tryd.f34) Tryd.func34 rfl Tryd.ntmps34 rfl (fun Az Hz => ?_)
 simp only [List.zipIdx_cons, List.zipIdx_nil, List.map_cons, List.map_nil, Nat.reduceAdd, Nat.zero_add] at Hz
 refine regS Hz (.assign rfl <| .nil) ?_
 clear Hz Az; intro Az Hz
 refine wp_seq_k (fun K0 hK0 => ?_)
 refine wp_region_lit ?_
 refine goCh Hz (.loadB1 m0 (i := 3) rfl rfl rfl Tryd.underlying51 rfl <| .move rfl <| .sub rfl rfl (r := en - 1) (IntWalk.i64_in _ (by omega)) <| .conv rfl Tryd.underlying3 Tryd.underlying66 (r := en - 1) (IntWalk.u64_in _ (by omega)) <| .nil) ?_
 clear Hz Az; intro Az Hz
 refine wpList_plain rfl (fun K hK => ?_)
 refine e_call Hz Tryd.func35 rfl rfl rfl rfl (pnum_ok _ _ _ (en - 1) _ _ _ x rest hb hbb hbe (by omega) (by omega) (m0.into [(1, 1), (2, 2)] (by decide) rfl)) ?_
 rintro e w10 ⟨p10, c10, rfl, hm10⟩
 have mx10 := m0.back hm10 [(1, 1), (2, 2)] (by decide); clear hm10 m0
 have m10 : MemOk _ _ [(1, _), (2, _), (3, _)] _ := mx10.only [1, 2, 3]; clear mx10
 refine ⟨_, rfl, ?_⟩; clear Hz Az; intro Az Hz
 refine hK _ _ ?_; clear hK K
 refine goCh Hz (.conv rfl Tryd.underlying66 Tryd.underlying3 (r := x) (IntWalk.i64_in _ (by omega)) <| .assign rfl <| .nil) ?_
 clear Hz Az; intro Az Hz
 refine wpList_nil ?_
 refine hK0 _ _ ?_; clear hK0; try clear K0
 refine wp_ret ?_
 try dsimp only [Exit.then, Exit.inBlock]
 refine (ret1 (fn := Tryd.f34) Hz rfl rfl ?_)
 exact ⟨_, _, rfl, m10.only [1, 2, 3]⟩
theorem time_c (X : Cx) (B gR : Nat) (b : List Int) (p : Option Addr) (c : Nat) (w0 : World) (x : Int) (rest : List Int) (hb : b.length ≤ 1000000) (hbb : BytesL b) (hbe : b = enc x ++ rest) (hx : 0 ≤ x ∧ x < 1099511627777) (m0 : MemOk X w0 [(1, .box B 85 [.slice p (b).length c, .int .i64 0]), (2, .dat (.slice p (b).length c) (.ns .u8 (b))), (3, .box gR 51 [.pointer (some ⟨B, 0, none⟩)])] w0) :
   Calls Tryd.prog 36 #[.pointer (some ⟨gR, 0, none⟩)] w0 fun e w' => ∃ (p' : Option Addr) (c' : Nat), e = .returned (.int .i64 x) ∧ MemOk X w0 [(1, .box B 85 [.slice p' (rest).length c', .int .i64 0]), (2, .dat (.slice p' (rest).length c') (.ns .u8 (rest))), (3, .box gR 51 [.pointer (some ⟨B, 0, none⟩)])] w' := by
 refine enter (fn := Tryd.f36) Tryd.func36 rfl Tryd.ntmps36 rfl (fun Az Hz => ?_)
 simp only [List.zipIdx_cons, List.zipIdx_nil, List.map_cons, List.map_nil, Nat.reduceAdd, Nat.zero_add] at Hz
 refine regS Hz (.assign rfl <| .nil) ?_
 clear Hz Az; intro Az Hz
 refine wp_seq_k (fun K0 hK0 => ?_)
 refine wp_region_lit ?_
 refine goCh Hz (.loadB1 m0 (i := 3) rfl rfl rfl Tryd.underlying51 rfl .nil) ?_
 clear Hz Az; intro Az Hz
 refine wpList_plain rfl (fun K hK => ?_)
 refine e_call Hz Tryd.func35 rfl rfl rfl rfl (pnum_ok _ _ _ 1099511627776 _ _ _ x rest hb hbb hbe (by omega) (by omega) (m0.into [(1, 1), (2, 2)] (by decide) rfl)) ?_
 rintro e w4 ⟨p4, c4, rfl, hm4⟩
 have mx4 := m0.back hm4 [(1, 1), (2, 2)] (by decide); clear hm4 m0
 have m4 : MemOk _ _ [(1, _), (2, _), (3, _)] _ := mx4.only [1, 2, 3]; clear mx4
 refine ⟨_, rfl, ?_⟩; clear Hz Az; intro Az Hz
 refine hK _ _ ?_; clear hK K
 refine goCh Hz (.conv rfl Tryd.underlying66 Tryd.underlying3 (r := x) (IntWalk.i64_in _ (by omega)) <| .assign rfl <| .nil) ?_
 clear Hz Az; intro Az Hz
 refine wpList_nil ?_
 refine hK0 _ _ ?_; clear hK0; try clear K0
 refine wp_ret ?_
 try dsimp only [Exit.then, Exit.inBlock]
 refine (ret1 (fn := Tryd.f36) Hz rfl rfl ?_)
 exact ⟨_, _, rfl, m4.only [1, 2, 3]⟩
end Go.Proofs.YtmoghepeggohhaaDoor.K
