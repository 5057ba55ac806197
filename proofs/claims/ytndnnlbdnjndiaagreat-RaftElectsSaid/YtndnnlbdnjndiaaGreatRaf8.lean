/- RaftElects' walk. -/
import Derived.Test.YtndnnlbdnjndiaaGreatRafJ
namespace Go.Proofs.YtndnnlbdnjndiaaGreat.K
open Go.ChangeShapes Go.WideShapes Go.ChangeAt Go.RowKit
set_option linter.unusedVariables false
set_option linter.unusedSimpArgs false

theorem fl25rl : flatS Tryz.prog 25 [.int .i64 0, .int .i64 0] = true := by kernel_rfl
theorem fl29rl : flatS Tryz.prog 29 [.int .i64 0, .int .i64 0, .slice none 0 0, .slice none 0 0] = true := by kernel_rfl
theorem inf3rl : (Tryz.prog.info? 3).map (fun i => (i.zero, i.size, i.bytes)) = some (some (.int .i64 0), 1, 8) := by kernel_rfl
theorem ps32rl : placesS Tryz.prog 32 = some [(0, 2), (2, 4), (6, 1)] := by kernel_rfl
theorem ps55rl : placesS Tryz.prog 55 = some [(0, 1), (1, 1), (2, 1), (3, 1), (4, 1), (5, 1), (6, 1), (7, 1), (8, 1), (9, 1), (10, 4), (14, 1), (15, 1), (16, 1), (17, 1), (18, 1)] := by kernel_rfl
theorem sz4rl : (Tryz.prog.info? 4).map (·.size) = some 1 := by kernel_rfl
theorem sz5rl : (Tryz.prog.info? 5).map (·.size) = some 1 := by kernel_rfl
theorem zc25rl : ((Tryz.prog.info? 25).bind (·.zero)).map (·.cells.toList) = some [.int .i64 0, .int .i64 0] := by kernel_rfl
theorem zc29rl : ((Tryz.prog.info? 29).bind (·.zero)).map (·.cells.toList) = some [.int .i64 0, .int .i64 0, .slice none 0 0, .slice none 0 0] := by kernel_rfl
theorem zc32rl : ((Tryz.prog.info? 32).bind (·.zero)).map (·.cells.toList) = some [.int .i64 0, .int .i64 0, .int .i64 0, .int .i64 0, .slice none 0 0, .slice none 0 0, .slice none 0 0] := by kernel_rfl
theorem zc55rl : ((Tryz.prog.info? 55).bind (·.zero)).map (·.cells.toList) = some [.int .i64 0, .int .i64 0, .int .i64 0, .int .i64 0, .int .i64 0, .int .i64 0, .int .i64 0, .int .i64 0, .bool false, .slice none 0 0, .int .i64 0, .int .i64 0, .slice none 0 0, .slice none 0 0, .slice none 0 0, .int .i64 0, .int .i64 0, .int .i64 0, .int .i64 0] := by kernel_rfl
theorem zc68rl : ((Tryz.prog.info? 68).bind (·.zero)).map (·.cells.toList) = some [.bool false, .bool false, .bool false, .bool false, .bool false, .bool false, .bool false, .bool false] := by kernel_rfl
theorem fl46rrself : flatS Tryz.prog 46 [.slice none 0 0, .slice none 0 0, .bool false] = true := by kernel_rfl
theorem sz46rrself : (Tryz.prog.info? 46).map (·.size) = some 3 := by kernel_rfl
theorem zc46rrself : ((Tryz.prog.info? 46).bind (·.zero)).map (·.cells.toList) = some [.slice none 0 0, .slice none 0 0, .bool false] := by kernel_rfl

theorem cnt_ge2 (G : List Bool) (k : Nat) : cntB G k ≤ k := by
 unfold cntB
 exact Nat.le_trans List.countP_le_length (List.length_take_le _ _)
theorem elect_no {r : Int} {k c : Nat} (h : r = if k < 2 * c then 3 else 2) : ¬ ((decide (r = 3) != decide ((k : Int) < 2 * (c : Int))) = true) := by
 subst h
 by_cases h : k < 2 * c
 · rw [if_pos h, decide_eq_true (show (k : Int) < 2 * (c : Int) by omega)]; decide
 · rw [if_neg h, decide_eq_false (show ¬ (k : Int) < 2 * (c : Int) by omega)]; decide
set_option maxRecDepth 100000
set_option maxHeartbeats 4000000
theorem rRecvSelf_s (X : Cx) (R : Nat) (s : RS) (p : RP) (k gm f t te ix lt co : Int) (ok : Bool) (w0 : World) (hg : gm = s.x.gr) (ht : t = s.x.id) (hf : f = s.x.id) (m0 : MemOk X w0 (rfM R s p) w0) :
   Calls Tryz.prog 23 #[.pointer (some ⟨R, 0, none⟩), .agg #[.int .i64 k, .int .i64 gm, .int .i64 f, .int .i64 t, .int .i64 te, .int .i64 ix, .int .i64 lt, .int .i64 co, .bool ok, .slice none 0 0, .int .i64 0, .int .i64 0, .slice none 0 0, .slice none 0 0, .slice none 0 0, .int .i64 0, .int .i64 0, .int .i64 0, .int .i64 0]] w0 fun e w' => e = .returned (.agg #[.slice none 0 0, .slice none 0 0, .bool false]) ∧ MemOk X w0 (rfM R s p) w' := by
 refine enter (fn := Tryz.f23) Tryz.func23 rfl Tryz.ntmps23 rfl (fun Az Hz => ?_)
 simp only [List.zipIdx_cons, List.zipIdx_nil, List.map_cons, List.map_nil, Nat.reduceAdd, Nat.zero_add] at Hz
 refine wp_seq_k (fun K0 hK0 => ?_)
 refine wp_region_lit ?_
 refine wpList_plain rfl (fun K hK => ?_)
 refine e_box Hz m0 70 (cs := [_, _, _, _, _, _, _, _, _, _, _, _, _, _, _, _, _, _, _]) rfl rfl rfl ?_
 clear Hz Az m0; intro g1 Az w2 Hz m2 hB2 hg2
 clear hB2 hg2
 refine hK _ _ ?_; clear hK K
 refine wpList_plain rfl (fun K hK => ?_)
 refine e_alloc Hz m2 71 zc46rrself rfl ?_
 clear Hz Az m2; intro g3 Az w4 Hz m4 hB4 hg4
 clear hB4 hg4
 refine hK _ _ ?_; clear hK K
 refine wpList_nil ?_
 refine hK0 _ _ ?_; clear hK0; try clear K0
 refine wp_seq_k (fun K1 hK1 => ?_)
 refine wp_seq_k (fun K2 hK2 => ?_)
 have m5 : MemOk _ _ [(1, _), (2, _), (3, _), (4, _), (5, _), (6, _), (7, _), (8, _), (70, _), (71, _)] _ := m4.only [1, 2, 3, 4, 5, 6, 7, 8, 70, 71]; clear m4
 refine region_p 28 (B := [(1, _), (2, _), (3, _), (4, _), (5, _), (6, _), (7, _), (8, _), (70, _), (71, _)]) (m5.to ⟨il, il, il, il, il, il, il, il, il, il, trivial⟩) m5 (by kernel_rfl) (fun w6 hP6 m6 => ?_); clear m5
 refine goR hP6 [0, 1, 2, 3, 4, 5, 6, 7, 8] [1, 6] 9 0 511 Hz (m6.to ⟨il, il, il, il, il, il, il, il, il, il, trivial⟩) (.fieldAddr (off := 1) rfl Tryz.underlying55 rfl (s := 0) (by kernel_rfl) rfl <| .loadB1 hh (i := 70) rfl rfl rfl Tryz.underlying3 rfl <| .move rfl <| .nilCheck rfl <| .fieldAddr (off := 0) rfl Tryz.underlying86 rfl (s := 4) (by kernel_rfl) rfl <| .fieldAddr (off := 1) rfl Tryz.underlying81 rfl (s := 0) (by kernel_rfl) rfl <| .loadB1 hh (i := 1) rfl rfl rfl Tryz.underlying3 rfl <| .neq rfl rfl <| .move rfl <| .nil) ?_
 clear Hz Az; intro Az Hz
 refine bool_cases Hz (t := 14) rfl ?_ ?_
 · intro hb _; exact absurd hb (by simp; omega)
 clear Hz; intro _ Hz
 refine goR hP6 [9, 10, 11, 12, 13, 14, 15, 16, 17, 18] [10, 15] 10 511 524287 Hz (m6.to ⟨il, il, il, il, il, il, il, il, il, il, trivial⟩) (.fieldAddr (off := 3) rfl Tryz.underlying55 rfl (s := 0) (by kernel_rfl) rfl <| .loadB1 hh (i := 70) rfl rfl rfl Tryz.underlying3 rfl <| .move rfl <| .nilCheck rfl <| .fieldAddr (off := 0) rfl Tryz.underlying86 rfl (s := 4) (by kernel_rfl) rfl <| .fieldAddr (off := 0) rfl Tryz.underlying81 rfl (s := 0) (by kernel_rfl) rfl <| .loadB1 hh (i := 1) rfl rfl rfl Tryz.underlying3 rfl <| .neq rfl rfl <| .pickF rfl rfl <| .move rfl <| .nil) ?_
 clear Hz Az; intro Az Hz
 refine bool_cases Hz (t := 24) rfl ?_ ?_
 · intro hb _; exact absurd hb (by simp; omega)
 clear Hz; intro _ Hz
 refine goR hP6 [19, 20, 21, 22, 23, 24, 25, 26, 27] [20, 25] 9 524287 268435455 Hz (m6.to ⟨il, il, il, il, il, il, il, il, il, il, trivial⟩) (.fieldAddr (off := 2) rfl Tryz.underlying55 rfl (s := 0) (by kernel_rfl) rfl <| .loadB1 hh (i := 70) rfl rfl rfl Tryz.underlying3 rfl <| .move rfl <| .nilCheck rfl <| .fieldAddr (off := 0) rfl Tryz.underlying86 rfl (s := 4) (by kernel_rfl) rfl <| .fieldAddr (off := 0) rfl Tryz.underlying81 rfl (s := 0) (by kernel_rfl) rfl <| .loadB1 hh (i := 1) rfl rfl rfl Tryz.underlying3 rfl <| .eql rfl rfl <| .pickF rfl rfl <| .nil) ?_
 clear Hz Az; intro Az Hz
 refine wpAnyE_done (by kernel_rfl) ?_ _
 refine hK2 _ _ ?_; clear hK2; try clear K2
 refine bool_cases Hz (t := 33) rfl ?_ ?_
 rotate_left
 · intro hb _; exact absurd hb (by simp; omega)
 clear Hz; intro _ Hz
 refine wp_cond_true (Hz.ev (x := .tmp 33) rfl) ?_
 replace Hz : Has 46 [(0, _), (3, _), (4, _)] Az := Hz.only [0, 3, 4]
 refine wp_seq_k (fun K3 hK3 => ?_)
 refine wp_region_lit ?_
 refine goCh Hz (.build rfl zc46rrself fl46rrself rfl (by dsimp only [setL, List.set] <;> rfl) .nil) ?_
 clear Hz Az; intro Az Hz
 refine wpList_plain rfl (fun K hK => ?_)
 refine e_storeW Hz m6 71 rfl rfl rfl rfl rfl sz46rrself ?_
 clear m6; intro w41 m41 hB41
 clear hB41
 refine hK _ _ ?_; clear hK K
 refine wpList_nil ?_
 refine hK3 _ _ ?_; clear hK3; try clear K3
 refine wp_ret ?_
 try dsimp only [Exit.then, Exit.inBlock]
 refine (retC (fn := Tryz.f23) Hz m41 (i := 71) rfl rfl rfl Tryz.underlying46 rfl sz46rrself ?_)
 exact ⟨rfl, m41.only [1, 2, 3, 4, 5, 6, 7, 8]⟩
theorem elects_walk (x0 : Int) (yl : List Int) (bs : List Bool) (pa1 pa2 : Option Addr) (ca1 ca2 : Nat) (w0 : World) (h0 : 0 ≤ x0 ∧ x0 ≤ 255) (h1 : Rd (fun _ => True) w0 (.slice pa1 yl.length ca1) (.ns .u8 yl)) (hyv : ∀ j, j < yl.length → 0 ≤ yl.getD j 0 ∧ yl.getD j 0 ≤ 255) (h2 : Rd (fun _ => True) w0 (.slice pa2 bs.length ca2) (.l 1 (bs.map boD))) :
   Calls Tryz.prog 6 #[.int .u8 x0, .slice pa1 yl.length ca1, .slice pa2 bs.length ca2] w0 fun e w' => e = .returned (.bool true) ∧ Below w0.heap.size w0 w' := by
 refine enter (fn := Tryz.f6) Tryz.func6 rfl Tryz.ntmps6 rfl (fun Az Hz => ?_)
 simp only [List.zipIdx_cons, List.zipIdx_nil, List.map_cons, List.map_nil, Nat.reduceAdd, Nat.zero_add] at Hz
 have m0 := MemOk.start (fun _ => False) w0
 obtain ⟨k, hk⟩ : ∃ k : Nat, (k : Int) = x0 % 5 + 2 := ⟨(x0 % 5 + 2).toNat, by omega⟩
 refine regS Hz (.assign rfl <| .nil) ?_
 clear Hz Az; intro Az Hz
 refine wp_seq_k (fun K0 hK0 => ?_)
 refine wp_seq_k (fun K1 hK1 => ?_)
 refine wp_region_lit ?_
 refine wpList_plain rfl (fun K hK => ?_)
 refine e_call Hz Tryz.func10 rfl rfl rfl rfl (rknown_any _) ?_
 rintro e w2 ⟨rfl, hb2⟩
 have m3 := m0.later hb2
 clear m0
 clear hb2
 refine ⟨_, rfl, ?_⟩; clear Hz Az; intro Az Hz
 refine hK _ _ ?_; clear hK K
 refine goCh Hz (.not rfl .nil) ?_
 clear Hz Az; intro Az Hz
 refine wpList_nil ?_
 refine hK1 _ _ ?_; clear hK1; try clear K1
 refine wp_cond_false (Hz.ev (x := .tmp 19) rfl) ?_
 refine wp_skip ?_
 refine hK0 _ _ ?_; clear hK0; try clear K0
 refine wp_seq_k (fun K2 hK2 => ?_)
 refine wp_seq_k (fun K3 hK3 => ?_)
 refine wp_region_lit ?_
 refine goCh Hz (.move rfl <| .len rfl Tryz.underlying27 <| .gtr rfl rfl <| .move rfl <| .nil) ?_
 clear Hz Az; intro Az Hz
 refine bool_cases Hz (t := 23) rfl ?_ ?_
 ·
  clear Hz; intro hb14 Hz
  try simp only [Q1x, Q2x, Q3x, Q4x, Q5x, Q6x, Q7x, Q8x, Q9x, Q0x, Qax, Qbx] at hb14
  refine goCh Hz (.sk <| .sk <| .sk <| .sk <| .sk <| .pickT rfl rfl <| .nil) ?_
  clear Hz Az; intro Az Hz
  refine wpList_nil ?_
  refine hK3 _ _ ?_; clear hK3; try clear K3
  refine wp_cond_true (Hz.ev (x := .tmp 29) rfl) ?_
  replace Hz : Has 131 [(0, _), (1, _), (2, _), (6, _), (29, _)] Az := Hz.only [0, 1, 2, 6, 29]
  refine regS Hz (.assign rfl <| .nil) ?_
  clear Hz Az; intro Az Hz
  refine wp_ret ?_
  try dsimp only [Exit.then, Exit.inBlock]
  refine (ret1 (fn := Tryz.f6) Hz rfl rfl ?_)
  exact ⟨rfl, m3.below⟩
 ·
  clear Hz; intro hb14 Hz
  try simp only [Q1x, Q2x, Q3x, Q4x, Q5x, Q6x, Q7x, Q8x, Q9x, Q0x, Qax, Qbx] at hb14
  refine goCh Hz (.moveZ rfl <| .lenZ rfl Tryz.underlying67 <| .moveZ rfl <| .lenZ rfl Tryz.underlying27 <| .lssZ rfl rfl <| .pickF rfl rfl <| .nil) ?_
  clear Hz Az; intro Az Hz
  refine wpList_nil ?_
  refine hK3 _ _ ?_; clear hK3; try clear K3
  refine bool_cases Hz (t := 29) rfl ?_ ?_
  ·
   clear Hz; intro hb29 Hz
   try simp only [Q1x, Q2x, Q3x, Q4x, Q5x, Q6x, Q7x, Q8x, Q9x, Q0x, Qax, Qbx] at hb29
   refine wp_cond_true (Hz.ev (x := .tmp 29) rfl) ?_
   replace Hz : Has 131 [(0, _), (1, _), (2, _), (6, _), (29, _)] Az := Hz.only [0, 1, 2, 6, 29]
   refine regS Hz (.assign rfl <| .nil) ?_
   clear Hz Az; intro Az Hz
   refine wp_ret ?_
   try dsimp only [Exit.then, Exit.inBlock]
   refine (ret1 (fn := Tryz.f6) Hz rfl rfl ?_)
   exact ⟨rfl, m3.below⟩
  ·
   clear Hz; intro hb29 Hz
   try simp only [Q1x, Q2x, Q3x, Q4x, Q5x, Q6x, Q7x, Q8x, Q9x, Q0x, Qax, Qbx] at hb29
   have hlen : yl.length ≤ 12 ∧ yl.length ≤ bs.length := ⟨by omega, by omega⟩
   refine wp_cond_false (Hz.ev (x := .tmp 29) rfl) ?_
   refine wp_skip ?_
   refine hK2 _ _ ?_; clear hK2; try clear K2
   replace Hz : Has 131 [(0, _), (1, _), (2, _), (6, _), (29, _)] Az := Hz.only [0, 1, 2, 6, 29]
   refine regS Hz (.move rfl <| .rem rfl rfl (r := x0 % 5) (by omega) (Int.tmod_eq_emod_of_nonneg (by omega)) <| .conv rfl Tryz.underlying5 Tryz.underlying3 (r := x0 % 5) (IntWalk.i64_in _ (by omega)) <| .add rfl rfl (r := (k : Int)) (by rw [IntWalk.i64_in _ (by omega)]; omega) <| .assign rfl <| .nil) ?_
   clear Hz Az; intro Az Hz
   refine wp_seq_k (fun K4 hK4 => ?_)
   refine wp_region_lit ?_
   have m39 := m3.nilN 40 3 .i64
   clear m3
   refine goCh Hz (.assign rfl .nil) ?_
   clear Hz Az; intro Az Hz
   refine wpList_nil ?_
   refine hK4 _ _ ?_; clear hK4; try clear K4
   refine wp_seq_k (fun K5 hK5 => ?_)
   refine regS Hz (.assign rfl <| .nil) ?_
   clear Hz Az; intro Az Hz
   refine wp_block ?_
   refine wp_loop_ghost (fun g a w => ∃ (i : Nat) (pu : Option Addr) (cu : Nat), i ≤ k ∧ g = k - i ∧ Has 131 [(7, .int .i64 (k : Nat)), (8, .slice pu (upL i).length cu), (9, .int .i64 (i : Nat)), (1, .slice pa1 yl.length ca1), (2, .slice pa2 bs.length ca2)] a ∧ MemOk (cx (fun _ => False) w0) w0 [(30, .num (.slice pu (upL i).length cu) 3 .i64 (upL i))] w) (k) ?_ ?_
   · exact ⟨0, none, 0, Nat.zero_le _, rfl, Hz.only [7, 8, 9, 1, 2], m39.ren [(30, 40)] (by decide)⟩
   ·
    clear Hz m39
    rintro g Az w42 ⟨i, pu, cu, hil, hg, Hz, m42⟩
    refine wp_seq_k (fun K6 hK6 => ?_)
    refine regS Hz (.move rfl <| .move rfl <| .lss rfl rfl <| .nil) ?_
    clear Hz Az; intro Az Hz
    refine bool_cases Hz (t := 36) rfl ?_ ?_
    ·
     clear Hz; intro hb46 Hz
     try simp only [Q1x, Q2x, Q3x, Q4x, Q5x, Q6x, Q7x, Q8x, Q9x, Q0x, Qax, Qbx] at hb46
     have hi : i < k := by omega
     refine wp_cond_true (Hz.ev (x := .tmp 36) rfl) ?_
     refine wp_skip ?_
     refine hK6 _ _ ?_; clear hK6; try clear K6
     refine wp_seq_k (fun K7 hK7 => ?_)
     refine wp_block ?_
     refine wp_region_lit ?_
     refine goCh Hz (.move rfl <| .move rfl <| .nil) ?_
     clear Hz Az; intro Az Hz
     refine wpList_plain rfl (fun K hK => ?_)
     refine e_litN Hz m42 100 (k := .i64) rfl rfl Tryz.underlying26 inf3rl rfl rfl rfl rfl ?_
     clear Hz Az m42; intro g49 Az w50 Hz m50
     refine hK _ _ ?_; clear hK K
     refine wpList_plain rfl (fun K hK => ?_)
     refine e_appN Hz m50 30 rfl rfl rfl (m50.numsO (i := 100) rfl) Tryz.underlying26 inf3rl (by decide) (by rw [upL_len]; simp; omega) rfl ?_
     clear Hz Az m50; intro p51 c51 Az w52 Hz m52
     refine hK _ _ ?_; clear hK K
     refine goCh Hz (.assign rfl .nil) ?_
     clear Hz Az; intro Az Hz
     refine wpList_nil ?_
     refine hK7 _ _ ?_; clear hK7; try clear K7
     replace Hz : Has 131 [(7, _), (8, _), (9, _), (1, _), (2, _)] Az := Hz.only [7, 8, 9, 1, 2]
     refine wp_region_lit ?_
     refine goCh Hz (.move rfl <| .add rfl rfl (r := ((i + 1 : Nat) : Int)) (by rw [IntWalk.i64_in _ (by omega)]; omega) <| .assign rfl <| .nil) ?_
     clear Hz Az; intro Az Hz
     refine wpList_nil ?_
     show ∃ n', n' < _ ∧ _
     rw [upL_snoc] at Hz m52
     exact ⟨k - (i + 1), by omega, i + 1, _, _, by omega, rfl, Hz.only [7, 8, 9, 1, 2], m52.only [30]⟩
    ·
     clear Hz; intro hb46 Hz
     try simp only [Q1x, Q2x, Q3x, Q4x, Q5x, Q6x, Q7x, Q8x, Q9x, Q0x, Qax, Qbx] at hb46
     obtain rfl : k = i := by omega
     refine wp_cond_false (Hz.ev (x := .tmp 36) rfl) ?_
     refine wp_exit ?_
     refine hK5 _ _ ?_; clear hK5; try clear K5
     refine wp_seq_k (fun K8 hK8 => ?_)
     refine wp_region_lit ?_
     refine goCh Hz (.build rfl zc25rl fl25rl rfl (by dsimp only [setL, List.set] <;> rfl) <| .move rfl <| .build rfl zc29rl fl29rl rfl (by dsimp only [setL, List.set] <;> rfl) <| .buildG rfl zc32rl ps32rl rfl <| .nil) ?_
     clear Hz Az; intro Az Hz
     have m66 := m42.freezeN 30 rfl; clear m42
     have m67 := m66.dat 100 rfl (Rd.nilN _ _ .u8 none); clear m66
     have m68 := m67.dat 101 rfl (Rd.nil4 _ _); clear m67
     refine wpList_plain rfl (fun K hK => ?_)
     refine e_call Hz Tryz.func11 rfl rfl rfl rfl (rNew_s _ 0 1 0 (-1) 0 0 (upL k) [] [] _ _ _ _ _ _ _ _ (by decide) (by rw [upL_len]; omega) (by decide) (by decide) (by intro e he; cases he) (m68.into [(5, 30), (6, 100), (7, 101)] (by decide) rfl)) ?_
     rintro e w69 ⟨R, p1, rfl, hm69⟩
     have mx69 := m68.back hm69 [(1, 1), (2, 2), (3, 3), (4, 4), (5, 5), (6, 6), (7, 7), (8, 8)] (by decide); clear hm69 m68
     have m69 : MemOk _ _ [(1, _), (2, _), (3, _), (4, _), (5, _), (6, _), (7, _), (8, _)] _ := mx69.only [1, 2, 3, 4, 5, 6, 7, 8]; clear mx69
     refine ⟨_, rfl, ?_⟩; clear Hz Az; intro Az Hz
     refine hK _ _ ?_; clear hK K
     refine goCh Hz (.assign rfl .nil) ?_
     clear Hz Az; intro Az Hz
     refine wpList_nil ?_
     refine hK8 _ _ ?_; clear hK8; try clear K8
     refine wp_seq_k (fun K9 hK9 => ?_)
     replace Hz : Has 131 [(7, _), (8, _), (9, _), (1, _), (2, _), (10, _)] Az := Hz.only [7, 8, 9, 1, 2, 10]
     refine regS Hz (.assign rfl <| .nil) ?_
     clear Hz Az; intro Az Hz
     refine wp_block ?_
     refine wp_loop_ghost (fun g a w => ∃ (j : Nat) (p9 : RP), j ≤ 10 ∧ g = 10 - j ∧ Has 131 [(1, .slice pa1 yl.length ca1), (2, .slice pa2 bs.length ca2), (7, .int .i64 (k : Nat)), (10, .pointer (some ⟨R, 0, none⟩)), (11, .int .i64 ((j : Nat)))] a ∧ MemOk (cx (fun _ => False) w0) w0 (rfM R (tickN (B0 1 k) j) (nilP p9)) w) (10) ?_ ?_
     · exact ⟨0, p1, Nat.zero_le _, rfl, Hz.only [1, 2, 7, 10, 11], m69.only [1, 2, 3, 4, 5, 6, 7, 8]⟩
     ·
      clear Hz m69
      rintro g Az w74 ⟨j, p9, hjl, hg, Hz, m74⟩
      refine wp_seq_k (fun K10 hK10 => ?_)
      refine regS Hz (.move rfl <| .lss rfl rfl <| .nil) ?_
      clear Hz Az; intro Az Hz
      refine bool_cases Hz (t := 49) rfl ?_ ?_
      ·
       clear Hz; intro hb77 Hz
       try simp only [Q1x, Q2x, Q3x, Q4x, Q5x, Q6x, Q7x, Q8x, Q9x, Q0x, Qax, Qbx] at hb77
       have hj : j < 10 := by omega
       refine wp_cond_true (Hz.ev (x := .tmp 49) rfl) ?_
       refine wp_skip ?_
       refine hK10 _ _ ?_; clear hK10; try clear K10
       refine wp_seq_k (fun K11 hK11 => ?_)
       refine wp_block ?_
       refine wp_region_lit ?_
       refine goCh Hz (.move rfl .nil) ?_
       clear Hz Az; intro Az Hz
       refine wpList_plain rfl (fun K hK => ?_)
       refine e_call Hz Tryz.func18 rfl rfl rfl rfl (rtick_s _ R (tickN (B0 1 k) j) (nilP p9) _ (tkB_ok (B0_ok1 k (by omega) (by omega) j hj)).1 (tkB_ok (B0_ok1 k (by omega) (by omega) j hj)).2 (m74.into [(1, 1), (2, 2), (3, 3), (4, 4), (5, 5), (6, 6), (7, 7), (8, 8)] (by decide) rfl)) ?_
       rintro e w79 ⟨p2, o2, rfl, hm79⟩
       have mx79 := m74.back hm79 [(1, 1), (2, 2), (3, 3), (4, 4), (5, 5), (6, 6), (7, 7), (8, 8), (11, 11), (12, 12)] (by decide); clear hm79 m74
       have m79 : MemOk _ _ [(1, _), (2, _), (3, _), (4, _), (5, _), (6, _), (7, _), (8, _), (11, _), (12, _)] _ := mx79.only [1, 2, 3, 4, 5, 6, 7, 8, 11, 12]; clear mx79
       refine ⟨_, rfl, ?_⟩; clear Hz Az; intro Az Hz
       refine hK _ _ ?_; clear hK K
       refine wpList_nil ?_
       refine hK11 _ _ ?_; clear hK11; try clear K11
       refine wp_region_lit ?_
       refine goCh Hz (.move rfl <| .add rfl rfl (r := ((j + 1 : Nat) : Int)) (by rw [IntWalk.i64_in _ (by omega)]; omega) <| .assign rfl <| .nil) ?_
       clear Hz Az; intro Az Hz
       refine wpList_nil ?_
       show ∃ n', n' < _ ∧ _
       exact ⟨10 - (j + 1), by omega, j + 1, p2, by omega, rfl, Hz.only [1, 2, 7, 10, 11], m79.only [1, 2, 3, 4, 5, 6, 7, 8]⟩
      ·
       clear Hz; intro hb77 Hz
       try simp only [Q1x, Q2x, Q3x, Q4x, Q5x, Q6x, Q7x, Q8x, Q9x, Q0x, Qax, Qbx] at hb77
       obtain rfl : j = 10 := by omega
       have hb1 := B1_role k (by omega) (by omega)
       simp only [Bool.and_eq_true, decide_eq_true_eq] at hb1
       refine wp_cond_false (Hz.ev (x := .tmp 49) rfl) ?_
       refine wp_exit ?_
       refine hK9 _ _ ?_; clear hK9; try clear K9
       refine wp_seq_k (fun K12 hK12 => ?_)
       refine wp_seq_k (fun K13 hK13 => ?_)
       refine wp_region_lit ?_
       refine goCh Hz (.move rfl .nil) ?_
       clear Hz Az; intro Az Hz
       refine wpList_plain rfl (fun K hK => ?_)
       refine e_call Hz Tryz.func29 rfl rfl rfl rfl (rRole _ R (B1 1 k) (nilP p9) _ (m74.into [(1, 1), (2, 2), (3, 3), (4, 4), (5, 5), (6, 6), (7, 7), (8, 8)] (by decide) rfl)) ?_
       rintro e w86 ⟨rfl, hm86⟩
       have mx86 := m74.back hm86 [(1, 1), (2, 2), (3, 3), (4, 4), (5, 5), (6, 6), (7, 7), (8, 8)] (by decide); clear hm86 m74
       have m86 : MemOk _ _ [(1, _), (2, _), (3, _), (4, _), (5, _), (6, _), (7, _), (8, _)] _ := mx86.only [1, 2, 3, 4, 5, 6, 7, 8]; clear mx86
       refine ⟨_, rfl, ?_⟩; clear Hz Az; intro Az Hz
       refine hK _ _ ?_; clear hK K
       refine goCh Hz (.neq rfl rfl <| .move rfl <| .nil) ?_
       clear Hz Az; intro Az Hz
       refine bool_cases Hz (t := 57) rfl ?_ ?_
       · intro hb _; exact absurd hb (fun h9 => of_decide_eq_true h9 hb1.1)
       clear Hz; intro _ Hz
       refine goCh Hz (.moveZ rfl .nil) ?_
       clear Hz Az; intro Az Hz
       refine st_ge Hz rfl rfl rfl rfl (fun K hK => ?_)
       refine e_call Hz Tryz.func30 rfl rfl rfl rfl (rTerm _ R (B1 1 k) (nilP p9) _ (m86.into [(1, 1), (2, 2), (3, 3), (4, 4), (5, 5), (6, 6), (7, 7), (8, 8)] (by decide) rfl)) ?_
       rintro e w92 ⟨rfl, hm92⟩
       have mx92 := m86.back hm92 [(1, 1), (2, 2), (3, 3), (4, 4), (5, 5), (6, 6), (7, 7), (8, 8)] (by decide); clear hm92 m86
       have m92 : MemOk _ _ [(1, _), (2, _), (3, _), (4, _), (5, _), (6, _), (7, _), (8, _)] _ := mx92.only [1, 2, 3, 4, 5, 6, 7, 8]; clear mx92
       refine ⟨_, rfl, ?_⟩; clear Hz Az; intro Az Hz
       refine hK _ _ ?_; clear hK K
       refine goCh Hz (.neqZ rfl rfl <| .pickF rfl rfl <| .nil) ?_
       clear Hz Az; intro Az Hz
       refine wpList_nil ?_
       refine hK13 _ _ ?_; clear hK13; try clear K13
       refine bool_cases Hz (t := 61) rfl ?_ ?_
       · intro hb _; exact absurd hb (fun h9 => of_decide_eq_true h9 hb1.2)
       clear Hz; intro _ Hz
       refine wp_cond_false (Hz.ev (x := .tmp 61) rfl) ?_
       refine wp_skip ?_
       refine hK12 _ _ ?_; clear hK12; try clear K12
       refine wp_seq_k (fun K14 hK14 => ?_)
       replace Hz : Has 131 [(1, _), (2, _), (7, _), (10, _), (11, _)] Az := Hz.only [1, 2, 7, 10, 11]
       refine regS Hz (.assign rfl <| .nil) ?_
       clear Hz Az; intro Az Hz
       refine wp_block ?_
       refine wp_loop_ghost (fun g a w => ∃ (j : Nat) (p9 : RP), j ≤ (k / 2) ∧ g = (k / 2) - j ∧ Has 131 [(1, .slice pa1 yl.length ca1), (2, .slice pa2 bs.length ca2), (7, .int .i64 (k : Nat)), (10, .pointer (some ⟨R, 0, none⟩)), (12, .int .i64 (((j : Nat) : Int) + 1))] a ∧ MemOk (cx (fun _ => False) w0) w0 (rfM R (preN (B1 1 k) j) (nilP p9)) w) ((k / 2)) ?_ ?_
       · exact ⟨0, p9, Nat.zero_le _, rfl, Hz.only [1, 2, 7, 10, 12], m92.only [1, 2, 3, 4, 5, 6, 7, 8]⟩
       ·
        clear Hz m92
        rintro g Az w99 ⟨j, p9, hjl, hg, Hz, m99⟩
        refine wp_seq_k (fun K15 hK15 => ?_)
        refine regS Hz (.move rfl <| .move rfl <| .quo rfl rfl (r := ((k / 2 : Nat) : Int)) (by omega) (by rw [Int.tdiv_eq_ediv_of_nonneg (by omega), IntWalk.i64_in _ (by omega)]; omega) <| .leq rfl rfl <| .nil) ?_
        clear Hz Az; intro Az Hz
        refine bool_cases Hz (t := 65) rfl ?_ ?_
        ·
         clear Hz; intro hb104 Hz
         try simp only [Q1x, Q2x, Q3x, Q4x, Q5x, Q6x, Q7x, Q8x, Q9x, Q0x, Qax, Qbx] at hb104
         have hj : j < k / 2 := by omega
         have hrk := rcB_ok (pre_ok k (by omega) (by omega) j (by omega))
         refine wp_cond_true (Hz.ev (x := .tmp 65) rfl) ?_
         refine wp_skip ?_
         refine hK15 _ _ ?_; clear hK15; try clear K15
         refine wp_seq_k (fun K16 hK16 => ?_)
         refine wp_block ?_
         refine wp_region_lit ?_
         refine goCh Hz (.move rfl <| .move rfl <| .buildG rfl zc55rl ps55rl rfl <| .nil) ?_
         clear Hz Az; intro Az Hz
         refine wpList_plain rfl (fun K hK => ?_)
         refine e_call Hz Tryz.func23 rfl rfl rfl rfl (rRecvPreOk_s _ R (preN (B1 1 k) j) (nilP p9) 1 ((j : Int) + 1) 0 1 0 0 0 _ hrk.1 hrk.2.1.symm hrk.2.2.symm (by rw [hrk.2.2]; omega) (m99.into [(1, 1), (2, 2), (3, 3), (4, 4), (5, 5), (6, 6), (7, 7), (8, 8)] (by decide) rfl)) ?_
         rintro e w108 ⟨p2, o2, rfl, hm108⟩
         have mx108 := m99.back hm108 [(1, 1), (2, 2), (3, 3), (4, 4), (5, 5), (6, 6), (7, 7), (8, 8), (11, 11), (12, 12)] (by decide); clear hm108 m99
         have m108 : MemOk _ _ [(1, _), (2, _), (3, _), (4, _), (5, _), (6, _), (7, _), (8, _), (11, _), (12, _)] _ := mx108.only [1, 2, 3, 4, 5, 6, 7, 8, 11, 12]; clear mx108
         refine ⟨_, rfl, ?_⟩; clear Hz Az; intro Az Hz
         refine hK _ _ ?_; clear hK K
         refine wpList_nil ?_
         refine hK16 _ _ ?_; clear hK16; try clear K16
         replace Hz : Has 131 [(1, _), (2, _), (7, _), (10, _), (12, _)] Az := Hz.only [1, 2, 7, 10, 12]
         refine wp_region_lit ?_
         refine goCh Hz (.move rfl <| .add rfl rfl (r := ((j + 1 : Nat) : Int) + 1) (by rw [IntWalk.i64_in _ (by omega)]; omega) <| .assign rfl <| .nil) ?_
         clear Hz Az; intro Az Hz
         refine wpList_nil ?_
         show ∃ n', n' < _ ∧ _
         exact ⟨(k / 2) - (j + 1), by omega, j + 1, p2, by omega, rfl, Hz.only [1, 2, 7, 10, 12], m108.only [1, 2, 3, 4, 5, 6, 7, 8]⟩
        ·
         clear Hz; intro hb104 Hz
         try simp only [Q1x, Q2x, Q3x, Q4x, Q5x, Q6x, Q7x, Q8x, Q9x, Q0x, Qax, Qbx] at hb104
         obtain rfl : j = k / 2 := by omega
         obtain ⟨a1, a2, a3, a4, a5, -⟩ := E2_out (k := k) (by omega) (by omega)
         refine wp_cond_false (Hz.ev (x := .tmp 65) rfl) ?_
         refine wp_exit ?_
         refine hK14 _ _ ?_; clear hK14; try clear K14
         refine wp_seq_k (fun K17 hK17 => ?_)
         refine wp_seq_k (fun K18 hK18 => ?_)
         refine wp_region_lit ?_
         refine goCh Hz (.move rfl .nil) ?_
         clear Hz Az; intro Az Hz
         refine wpList_plain rfl (fun K hK => ?_)
         refine e_call Hz Tryz.func29 rfl rfl rfl rfl (rRole _ R (preN (B1 1 k) (k / 2)) (nilP p9) _ (m99.into [(1, 1), (2, 2), (3, 3), (4, 4), (5, 5), (6, 6), (7, 7), (8, 8)] (by decide) rfl)) ?_
         rintro e w116 ⟨rfl, hm116⟩
         have mx116 := m99.back hm116 [(1, 1), (2, 2), (3, 3), (4, 4), (5, 5), (6, 6), (7, 7), (8, 8)] (by decide); clear hm116 m99
         have m116 : MemOk _ _ [(1, _), (2, _), (3, _), (4, _), (5, _), (6, _), (7, _), (8, _)] _ := mx116.only [1, 2, 3, 4, 5, 6, 7, 8]; clear mx116
         refine ⟨_, rfl, ?_⟩; clear Hz Az; intro Az Hz
         refine hK _ _ ?_; clear hK K
         refine goCh Hz (.neq rfl rfl <| .move rfl <| .nil) ?_
         clear Hz Az; intro Az Hz
         refine bool_cases Hz (t := 75) rfl ?_ ?_
         · intro hb _; exact absurd hb (fun h9 => of_decide_eq_true h9 a5)
         clear Hz; intro _ Hz
         refine goCh Hz (.moveZ rfl .nil) ?_
         clear Hz Az; intro Az Hz
         refine st_ge Hz rfl rfl rfl rfl (fun K hK => ?_)
         refine e_call Hz Tryz.func30 rfl rfl rfl rfl (rTerm _ R (preN (B1 1 k) (k / 2)) (nilP p9) _ (m116.into [(1, 1), (2, 2), (3, 3), (4, 4), (5, 5), (6, 6), (7, 7), (8, 8)] (by decide) rfl)) ?_
         rintro e w122 ⟨rfl, hm122⟩
         have mx122 := m116.back hm122 [(1, 1), (2, 2), (3, 3), (4, 4), (5, 5), (6, 6), (7, 7), (8, 8)] (by decide); clear hm122 m116
         have m122 : MemOk _ _ [(1, _), (2, _), (3, _), (4, _), (5, _), (6, _), (7, _), (8, _)] _ := mx122.only [1, 2, 3, 4, 5, 6, 7, 8]; clear mx122
         refine ⟨_, rfl, ?_⟩; clear Hz Az; intro Az Hz
         refine hK _ _ ?_; clear hK K
         refine goCh Hz (.neqZ rfl rfl <| .pickF rfl rfl <| .nil) ?_
         clear Hz Az; intro Az Hz
         refine wpList_nil ?_
         refine hK18 _ _ ?_; clear hK18; try clear K18
         refine bool_cases Hz (t := 79) rfl ?_ ?_
         · intro hb _; exact absurd hb (fun h9 => of_decide_eq_true h9 a4)
         clear Hz; intro _ Hz
         refine wp_cond_false (Hz.ev (x := .tmp 79) rfl) ?_
         refine wp_skip ?_
         refine hK17 _ _ ?_; clear hK17; try clear K17
         replace Hz : Has 131 [(1, _), (2, _), (7, _), (10, _), (12, _)] Az := Hz.only [1, 2, 7, 10, 12]
         refine wp_seq_k (fun K19 hK19 => ?_)
         refine wp_region_lit ?_
         refine wpList_plain rfl (fun K hK => ?_)
         refine e_alloc Hz m122 300 zc68rl rfl ?_
         clear Hz Az m122; intro g128 Az w129 Hz m129 hB129 hg129
         clear hB129 hg129
         refine hK _ _ ?_; clear hK K
         refine wpList_nil ?_
         refine hK19 _ _ ?_; clear hK19; try clear K19
         refine wp_seq_k (fun K20 hK20 => ?_)
         refine wp_region_lit ?_
         refine goCh Hz (.c rfl (fun _ h_ => y_idxA h_ rfl rfl Tryz.underlying68 sz4rl 0 rfl (by decide) (off := 0) rfl) .nil) ?_
         clear Hz Az; intro Az Hz
         refine wpList_plain rfl (fun K hK => ?_)
         refine e_store1 Hz m129 300 rfl rfl rfl rfl rfl sz4rl (by dsimp only [List.set] <;> rfl) ?_
         clear m129; intro w132 m132 hB132
         clear hB132
         refine hK _ _ ?_; clear hK K
         refine wpList_nil ?_
         refine hK20 _ _ ?_; clear hK20; try clear K20
         refine wp_seq_k (fun K21 hK21 => ?_)
         refine regS Hz (.assign rfl <| .nil) ?_
         clear Hz Az; intro Az Hz
         refine wp_block ?_
         refine wp_loop_ghost (fun g a w => ∃ (i : Nat) (Bg : Nat) (p9 : RP) (g0 g1 g2 g3 g4 g5 : Bool) (y : List Int), i ≤ yl.length ∧ g = yl.length - i ∧ g0 = true ∧ y.length ≤ 7 ∧ Has 131 [(1, .slice pa1 yl.length ca1), (2, .slice pa2 bs.length ca2), (7, .int .i64 (k : Nat)), (10, .pointer (some ⟨R, 0, none⟩)), (13, .pointer (some ⟨Bg, 0, none⟩)), (14, .int .i64 (i : Nat))] a ∧ MemOk (cx (fun _ => False) w0) w0 ((60, .box Bg 68 [.bool g0, .bool g1, .bool g2, .bool g3, .bool g4, .bool g5, .bool false, .bool false]) :: rfM R (stE k [g0, g1, g2, g3, g4, g5] y) (nilP p9)) w) (yl.length) ?_ ?_
         · rw [show preN (B1 1 k) (k / 2) = stE k [true, false, false, false, false, false] [] from E2_st (by omega) (by omega)] at m132
           exact ⟨0, _, p9, true, false, false, false, false, false, [], Nat.zero_le _, rfl, rfl, by decide, Hz.only [1, 2, 7, 10, 13, 14], m132.ren [(60, 300), (1, 1), (2, 2), (3, 3), (4, 4), (5, 5), (6, 6), (7, 7), (8, 8)] (by decide)⟩
         ·
          clear Hz m132
          rintro g Az w134 ⟨i, Bg, p9, g0, g1, g2, g3, g4, g5, y, hil, hgi, hg0, hyl, Hz, m134⟩
          refine wp_seq_k (fun K22 hK22 => ?_)
          refine regS Hz (.move rfl <| .move rfl <| .len rfl Tryz.underlying27 <| .lss rfl rfl <| .nil) ?_
          clear Hz Az; intro Az Hz
          refine bool_cases Hz (t := 84) rfl ?_ ?_
          ·
           clear Hz; intro hb139 Hz
           try simp only [Q1x, Q2x, Q3x, Q4x, Q5x, Q6x, Q7x, Q8x, Q9x, Q0x, Qax, Qbx] at hb139
           have hi : i < yl.length := by omega
           have hst := stE_ok (k := k) (by omega) (by omega) [g0, g1, g2, g3, g4, g5] hyl
           obtain ⟨bv, hbv⟩ : ∃ b, bs[i]? = some b := ⟨_, List.getElem?_eq_getElem (by omega)⟩
           have hyb := hyv i hi
           obtain ⟨f, hf⟩ : ∃ f : Nat, (f : Int) = yl.getD i 0 % (k : Int) := ⟨(yl.getD i 0 % (k : Int)).toNat, by have := Int.emod_nonneg (yl.getD i 0) (show (k : Int) ≠ 0 by omega); omega⟩
           have hfk : f < k := by have := Int.emod_lt_of_pos (yl.getD i 0) (show (0 : Int) < k by omega); omega
           refine wp_cond_true (Hz.ev (x := .tmp 84) rfl) ?_
           refine wp_skip ?_
           refine hK22 _ _ ?_; clear hK22; try clear K22
           refine wp_seq_k (fun K23 hK23 => ?_)
           refine wp_block ?_
           refine wp_seq_k (fun K24 hK24 => ?_)
           have hC24 : ∀ (a : Act) (w : World), (Has 131 [(1, .slice pa1 yl.length ca1), (2, .slice pa2 bs.length ca2), (7, .int .i64 (k : Nat)), (10, .pointer (some ⟨R, 0, none⟩)), (13, .pointer (some ⟨Bg, 0, none⟩)), (14, .int .i64 (i : Nat)), (15, .int .i64 (f : Nat))] a ∧ MemOk (cx (fun _ => False) w0) w0 ((60, .box Bg 68 [.bool g0, .bool g1, .bool g2, .bool g3, .bool g4, .bool g5, .bool false, .bool false]) :: rfM R (stE k [g0, g1, g2, g3, g4, g5] y) (nilP p9)) w) → K24 a w := by
             clear Hz m134
             rintro Az w140 ⟨Hz, m140⟩
             refine hK24 _ _ ?_; clear hK24; try clear K24
             refine wp_seq_k (fun K25 hK25 => ?_)
             have hC25 : ∀ (a : Act) (w : World), (∃ (y7 : List Int) (p7 : RP), y7.length ≤ 7 ∧ Has 131 [(1, .slice pa1 yl.length ca1), (2, .slice pa2 bs.length ca2), (7, .int .i64 (k : Nat)), (10, .pointer (some ⟨R, 0, none⟩)), (13, .pointer (some ⟨Bg, 0, none⟩)), (14, .int .i64 (i : Nat)), (15, .int .i64 (f : Nat))] a ∧ MemOk (cx (fun _ => False) w0) w0 ((60, .box Bg 68 [.bool g0, .bool g1, .bool g2, .bool g3, .bool g4, .bool g5, .bool false, .bool false]) :: rfM R (stE k ([g0, g1, g2, g3, g4, g5].set f ([g0, g1, g2, g3, g4, g5].getD f false || bv)) y7) (nilP p7)) w) → K25 a w := by
               clear Hz m140
               rintro Az w141 ⟨y7, p7, hy7, Hz, m141⟩
               refine hK25 _ _ ?_; clear hK25; try clear K25
               refine wp_seq_k (fun K26 hK26 => ?_)
               have hC26 : ∀ (a : Act) (w : World), (∃ (q0 q1 q2 q3 q4 q5 : Bool), q0 = true ∧ Has 131 [(1, .slice pa1 yl.length ca1), (2, .slice pa2 bs.length ca2), (7, .int .i64 (k : Nat)), (10, .pointer (some ⟨R, 0, none⟩)), (13, .pointer (some ⟨Bg, 0, none⟩)), (14, .int .i64 (i : Nat))] a ∧ MemOk (cx (fun _ => False) w0) w0 ((60, .box Bg 68 [.bool q0, .bool q1, .bool q2, .bool q3, .bool q4, .bool q5, .bool false, .bool false]) :: rfM R (stE k [q0, q1, q2, q3, q4, q5] y7) (nilP p7)) w) → K26 a w := by
                 clear Hz m141
                 rintro Az w142 ⟨q0, q1, q2, q3, q4, q5, hq0, Hz, m142⟩
                 refine hK26 _ _ ?_; clear hK26; try clear K26
                 refine regS Hz (.assign rfl <| .nil) ?_
                 clear Hz Az; intro Az Hz
                 refine wp_seq_k (fun K27 hK27 => ?_)
                 refine regS Hz (.assign rfl <| .nil) ?_
                 clear Hz Az; intro Az Hz
                 refine wp_block ?_
                 refine wp_loop_ghost (fun g a w => ∃ (j : Nat), j ≤ k ∧ g = k - j ∧ Has 131 [(1, .slice pa1 yl.length ca1), (2, .slice pa2 bs.length ca2), (7, .int .i64 (k : Nat)), (10, .pointer (some ⟨R, 0, none⟩)), (13, .pointer (some ⟨Bg, 0, none⟩)), (14, .int .i64 (i : Nat)), (16, .int .i64 (cntB [q0, q1, q2, q3, q4, q5] j : Nat)), (17, .int .i64 (j : Nat))] a ∧ MemOk (cx (fun _ => False) w0) w0 ((60, .box Bg 68 [.bool q0, .bool q1, .bool q2, .bool q3, .bool q4, .bool q5, .bool false, .bool false]) :: rfM R (stE k [q0, q1, q2, q3, q4, q5] y7) (nilP p7)) w) (k) ?_ ?_
                 · exact ⟨0, Nat.zero_le _, rfl, Hz.only [1, 2, 7, 10, 13, 14, 16, 17], m142.ren [(60, 60), (1, 1), (2, 2), (3, 3), (4, 4), (5, 5), (6, 6), (7, 7), (8, 8)] (by decide)⟩
                 ·
                  clear Hz m142
                  rintro g Az w145 ⟨j, hjk, hgj, Hz, m145⟩
                  refine wp_seq_k (fun K28 hK28 => ?_)
                  refine regS Hz (.move rfl <| .move rfl <| .lss rfl rfl <| .nil) ?_
                  clear Hz Az; intro Az Hz
                  refine bool_cases Hz (t := 115) rfl ?_ ?_
                  ·
                   clear Hz; intro hb149 Hz
                   try simp only [Q1x, Q2x, Q3x, Q4x, Q5x, Q6x, Q7x, Q8x, Q9x, Q0x, Qax, Qbx] at hb149
                   have hj : j < k := by omega
                   refine wp_cond_true (Hz.ev (x := .tmp 115) rfl) ?_
                   refine wp_skip ?_
                   refine hK28 _ _ ?_; clear hK28; try clear K28
                   refine wp_seq_k (fun K29 hK29 => ?_)
                   have hC29 : ∀ (a : Act) (w : World), (Has 131 [(1, .slice pa1 yl.length ca1), (2, .slice pa2 bs.length ca2), (7, .int .i64 (k : Nat)), (10, .pointer (some ⟨R, 0, none⟩)), (13, .pointer (some ⟨Bg, 0, none⟩)), (14, .int .i64 (i : Nat)), (16, .int .i64 (cntB [q0, q1, q2, q3, q4, q5] (j + 1) : Nat)), (17, .int .i64 (j : Nat))] a ∧ MemOk (cx (fun _ => False) w0) w0 ((60, .box Bg 68 [.bool q0, .bool q1, .bool q2, .bool q3, .bool q4, .bool q5, .bool false, .bool false]) :: rfM R (stE k [q0, q1, q2, q3, q4, q5] y7) (nilP p7)) w) → K29 a w := by
                     clear Hz m145
                     rintro Az w150 ⟨Hz, m150⟩
                     refine hK29 _ _ ?_; clear hK29; try clear K29
                     refine wp_region_lit ?_
                     refine goCh Hz (.move rfl <| .add rfl rfl (r := ((j + 1 : Nat) : Int)) (by rw [IntWalk.i64_in _ (by omega)]; omega) <| .assign rfl <| .nil) ?_
                     clear Hz Az; intro Az Hz
                     refine wpList_nil ?_
                     show ∃ n', n' < _ ∧ _
                     exact ⟨k - (j + 1), by omega, j + 1, by omega, rfl, Hz.only [1, 2, 7, 10, 13, 14, 16, 17], m150.only [60, 1, 2, 3, 4, 5, 6, 7, 8]⟩
                   refine wp_block ?_
                   refine wp_seq_k (fun K30 hK30 => ?_)
                   have hC30 : ∀ (a : Act) (w : World), (Has 131 [(1, .slice pa1 yl.length ca1), (2, .slice pa2 bs.length ca2), (7, .int .i64 (k : Nat)), (10, .pointer (some ⟨R, 0, none⟩)), (13, .pointer (some ⟨Bg, 0, none⟩)), (14, .int .i64 (i : Nat)), (16, .int .i64 (cntB [q0, q1, q2, q3, q4, q5] j : Nat)), (17, .int .i64 (j : Nat)), (120, .bool ([q0, q1, q2, q3, q4, q5].getD j false))] a ∧ MemOk (cx (fun _ => False) w0) w0 ((60, .box Bg 68 [.bool q0, .bool q1, .bool q2, .bool q3, .bool q4, .bool q5, .bool false, .bool false]) :: rfM R (stE k [q0, q1, q2, q3, q4, q5] y7) (nilP p7)) w) → K30 a w := by
                     clear Hz m145
                     rintro Az w154 ⟨Hz, m154⟩
                     refine hK30 _ _ ?_; clear hK30; try clear K30
                     refine bool_cases Hz (t := 120) rfl ?_ ?_
                     ·
                      clear Hz; intro hb155 Hz
                      try simp only [Q1x, Q2x, Q3x, Q4x, Q5x, Q6x, Q7x, Q8x, Q9x, Q0x, Qax, Qbx] at hb155
                      refine wp_cond_true (Hz.ev (x := .tmp 120) rfl) ?_
                      refine wp_region_lit ?_
                      refine goCh Hz (.move rfl <| .add rfl rfl (IntWalk.i64_in _ (by have := cnt_ge2 [q0, q1, q2, q3, q4, q5] j; omega)) <| .assign rfl <| .nil) ?_
                      clear Hz Az; intro Az Hz
                      refine wpList_nil ?_
                      have hc9 := cnt_snoc6 j (by omega) q0 q1 q2 q3 q4 q5
                      rw [hb155] at hc9
                      rw [if_pos rfl] at hc9
                      rw [show ((cntB [q0, q1, q2, q3, q4, q5] j : Nat) : Int) + 1 = ((cntB [q0, q1, q2, q3, q4, q5] (j + 1) : Nat) : Int) from by rw [hc9]; omega] at Hz
                      show K29 _ _
                      exact hC29 _ _ ⟨Hz.only [1, 2, 7, 10, 13, 14, 16, 17], m154.only [60, 1, 2, 3, 4, 5, 6, 7, 8]⟩
                     ·
                      clear Hz; intro hb155 Hz
                      try simp only [Q1x, Q2x, Q3x, Q4x, Q5x, Q6x, Q7x, Q8x, Q9x, Q0x, Qax, Qbx] at hb155
                      refine wp_cond_false (Hz.ev (x := .tmp 120) rfl) ?_
                      refine wp_skip ?_
                      have hc9 := cnt_snoc6 j (by omega) q0 q1 q2 q3 q4 q5
                      rw [hb155] at hc9
                      have hc8 : cntB [q0, q1, q2, q3, q4, q5] j = cntB [q0, q1, q2, q3, q4, q5] (j + 1) := hc9.symm
                      rw [hc8] at Hz
                      show K29 _ _
                      exact hC29 _ _ ⟨Hz.only [1, 2, 7, 10, 13, 14, 16, 17], m154.only [60, 1, 2, 3, 4, 5, 6, 7, 8]⟩
                   rcases (show j = 0 ∨ j = 1 ∨ j = 2 ∨ j = 3 ∨ j = 4 ∨ j = 5 by omega) with rfl | rfl | rfl | rfl | rfl | rfl
                   ·
                    refine wp_region_lit ?_
                    refine goCh Hz (.move rfl <| .c rfl (fun _ h_ => y_idxA h_ rfl rfl Tryz.underlying68 sz4rl 0 rfl (by decide) (off := 0) rfl) <| .loadB1 m145 (i := 60) rfl rfl rfl Tryz.underlying4 rfl <| .nil) ?_
                    clear Hz Az; intro Az Hz
                    refine wpList_nil ?_
                    show K30 _ _
                    exact hC30 _ _ ⟨Hz.only [1, 2, 7, 10, 13, 14, 16, 17, 120], m145.only [60, 1, 2, 3, 4, 5, 6, 7, 8]⟩
                   ·
                    refine wp_region_lit ?_
                    refine goCh Hz (.move rfl <| .c rfl (fun _ h_ => y_idxA h_ rfl rfl Tryz.underlying68 sz4rl 1 rfl (by decide) (off := 1) rfl) <| .loadB1 m145 (i := 60) rfl rfl rfl Tryz.underlying4 rfl <| .nil) ?_
                    clear Hz Az; intro Az Hz
                    refine wpList_nil ?_
                    show K30 _ _
                    exact hC30 _ _ ⟨Hz.only [1, 2, 7, 10, 13, 14, 16, 17, 120], m145.only [60, 1, 2, 3, 4, 5, 6, 7, 8]⟩
                   ·
                    refine wp_region_lit ?_
                    refine goCh Hz (.move rfl <| .c rfl (fun _ h_ => y_idxA h_ rfl rfl Tryz.underlying68 sz4rl 2 rfl (by decide) (off := 2) rfl) <| .loadB1 m145 (i := 60) rfl rfl rfl Tryz.underlying4 rfl <| .nil) ?_
                    clear Hz Az; intro Az Hz
                    refine wpList_nil ?_
                    show K30 _ _
                    exact hC30 _ _ ⟨Hz.only [1, 2, 7, 10, 13, 14, 16, 17, 120], m145.only [60, 1, 2, 3, 4, 5, 6, 7, 8]⟩
                   ·
                    refine wp_region_lit ?_
                    refine goCh Hz (.move rfl <| .c rfl (fun _ h_ => y_idxA h_ rfl rfl Tryz.underlying68 sz4rl 3 rfl (by decide) (off := 3) rfl) <| .loadB1 m145 (i := 60) rfl rfl rfl Tryz.underlying4 rfl <| .nil) ?_
                    clear Hz Az; intro Az Hz
                    refine wpList_nil ?_
                    show K30 _ _
                    exact hC30 _ _ ⟨Hz.only [1, 2, 7, 10, 13, 14, 16, 17, 120], m145.only [60, 1, 2, 3, 4, 5, 6, 7, 8]⟩
                   ·
                    refine wp_region_lit ?_
                    refine goCh Hz (.move rfl <| .c rfl (fun _ h_ => y_idxA h_ rfl rfl Tryz.underlying68 sz4rl 4 rfl (by decide) (off := 4) rfl) <| .loadB1 m145 (i := 60) rfl rfl rfl Tryz.underlying4 rfl <| .nil) ?_
                    clear Hz Az; intro Az Hz
                    refine wpList_nil ?_
                    show K30 _ _
                    exact hC30 _ _ ⟨Hz.only [1, 2, 7, 10, 13, 14, 16, 17, 120], m145.only [60, 1, 2, 3, 4, 5, 6, 7, 8]⟩
                   ·
                    refine wp_region_lit ?_
                    refine goCh Hz (.move rfl <| .c rfl (fun _ h_ => y_idxA h_ rfl rfl Tryz.underlying68 sz4rl 5 rfl (by decide) (off := 5) rfl) <| .loadB1 m145 (i := 60) rfl rfl rfl Tryz.underlying4 rfl <| .nil) ?_
                    clear Hz Az; intro Az Hz
                    refine wpList_nil ?_
                    show K30 _ _
                    exact hC30 _ _ ⟨Hz.only [1, 2, 7, 10, 13, 14, 16, 17, 120], m145.only [60, 1, 2, 3, 4, 5, 6, 7, 8]⟩
                  ·
                   clear Hz; intro hb149 Hz
                   try simp only [Q1x, Q2x, Q3x, Q4x, Q5x, Q6x, Q7x, Q8x, Q9x, Q0x, Qax, Qbx] at hb149
                   obtain rfl : k = j := by omega
                   refine wp_cond_false (Hz.ev (x := .tmp 115) rfl) ?_
                   refine wp_exit ?_
                   refine hK27 _ _ ?_; clear hK27; try clear K27
                   refine wp_seq_k (fun K31 hK31 => ?_)
                   refine wp_region_lit ?_
                   refine goCh Hz (.move rfl .nil) ?_
                   clear Hz Az; intro Az Hz
                   refine wpList_plain rfl (fun K hK => ?_)
                   refine e_call Hz Tryz.func29 rfl rfl rfl rfl (rRole _ R (stE k [q0, q1, q2, q3, q4, q5] y7) (nilP p7) _ (m145.into [(1, 1), (2, 2), (3, 3), (4, 4), (5, 5), (6, 6), (7, 7), (8, 8)] (by decide) rfl)) ?_
                   rintro e w179 ⟨rfl, hm179⟩
                   have mx179 := m145.back hm179 [(1, 1), (2, 2), (3, 3), (4, 4), (5, 5), (6, 6), (7, 7), (8, 8)] (by decide); clear hm179 m145
                   have m179 : MemOk _ _ [(1, _), (2, _), (3, _), (4, _), (5, _), (6, _), (7, _), (8, _), (60, _)] _ := mx179.only [1, 2, 3, 4, 5, 6, 7, 8, 60]; clear mx179
                   refine ⟨_, rfl, ?_⟩; clear Hz Az; intro Az Hz
                   refine hK _ _ ?_; clear hK K
                   refine goCh Hz (.eql rfl rfl <| .move rfl <| .mul rfl rfl (IntWalk.i64_in _ (by have := cnt_ge2 [q0, q1, q2, q3, q4, q5] k; omega)) <| .move rfl <| .gtr rfl rfl <| .neqB rfl rfl Tryz.underlying4 <| .nil) ?_
                   clear Hz Az; intro Az Hz
                   refine wpList_nil ?_
                   refine hK31 _ _ ?_; clear hK31; try clear K31
                   refine bool_cases Hz (t := 130) rfl ?_ ?_
                   · intro hb _; exact absurd hb (elect_no (stE_role (by omega) (by omega) [q0, q1, q2, q3, q4, q5] y7))
                   clear Hz; intro _ Hz
                   refine wp_cond_false (Hz.ev (x := .tmp 130) rfl) ?_
                   refine wp_skip ?_
                   refine hK23 _ _ ?_; clear hK23; try clear K23
                   replace Hz : Has 131 [(1, _), (2, _), (7, _), (10, _), (13, _), (14, _), (16, _), (17, _)] Az := Hz.only [1, 2, 7, 10, 13, 14, 16, 17]
                   refine wp_region_lit ?_
                   refine goCh Hz (.move rfl <| .add rfl rfl (r := ((i + 1 : Nat) : Int)) (by rw [IntWalk.i64_in _ (by omega)]; omega) <| .assign rfl <| .nil) ?_
                   clear Hz Az; intro Az Hz
                   refine wpList_nil ?_
                   show ∃ n', n' < _ ∧ _
                   exact ⟨yl.length - (i + 1), by omega, i + 1, _, p7, _, _, _, _, _, _, y7, by omega, rfl, hq0, hy7, Hz.only [1, 2, 7, 10, 13, 14], m179.only [60, 1, 2, 3, 4, 5, 6, 7, 8]⟩
               rcases (show f = 0 ∨ f = 1 ∨ f = 2 ∨ f = 3 ∨ f = 4 ∨ f = 5 by omega) with rfl | rfl | rfl | rfl | rfl | rfl
               ·
                refine wp_region_lit ?_
                refine goCh Hz (.move rfl <| .move rfl <| .c rfl (fun _ h_ => y_idxA h_ rfl rfl Tryz.underlying68 sz4rl 0 rfl (by decide) (off := 0) rfl) <| .loadB1 m141 (i := 60) rfl rfl rfl Tryz.underlying4 rfl <| .move rfl <| .nil) ?_
                clear Hz Az; intro Az Hz
                refine bool_cases Hz (t := 106) rfl ?_ ?_
                ·
                 clear Hz; intro hb197 Hz
                 try simp only [Q1x, Q2x, Q3x, Q4x, Q5x, Q6x, Q7x, Q8x, Q9x, Q0x, Qax, Qbx] at hb197
                 refine goCh Hz (.sk <| .sk <| .sk <| .sk <| .pickT rfl rfl <| .c rfl (fun _ h_ => y_idxA h_ rfl rfl Tryz.underlying68 sz4rl 0 rfl (by decide) (off := 0) rfl) <| .nil) ?_
                 clear Hz Az; intro Az Hz
                 refine wpList_plain rfl (fun K hK => ?_)
                 refine e_store1 Hz m141 60 rfl rfl rfl rfl rfl sz4rl (by dsimp only [List.set] <;> rfl) ?_
                 clear m141; intro w204 m204 hB204
                 clear hB204
                 refine hK _ _ ?_; clear hK K
                 refine wpList_nil ?_
                 have hgj : g0 = true := hb197
                 have hge : ([g0, g1, g2, g3, g4, g5].set 0 ([g0, g1, g2, g3, g4, g5].getD 0 false || bv)) = [true, g1, g2, g3, g4, g5] := by rw [show [g0, g1, g2, g3, g4, g5].getD 0 false = true from hgj]; rfl
                 rw [hge] at m204
                 show K26 _ _
                 exact hC26 _ _ ⟨true, g1, g2, g3, g4, g5, rfl, Hz.only [1, 2, 7, 10, 13, 14], m204.only [60, 1, 2, 3, 4, 5, 6, 7, 8]⟩
                ·
                 clear Hz; intro hb197 Hz
                 try simp only [Q1x, Q2x, Q3x, Q4x, Q5x, Q6x, Q7x, Q8x, Q9x, Q0x, Qax, Qbx] at hb197
                 refine goCh Hz (.moveZ rfl <| .moveZ rfl <| .nil) ?_
                 clear Hz Az; intro Az Hz
                 obtain ⟨gx207, ox207, vx207, hp207, hl207, hR207, hrg207⟩ := h2.extA (i) (r := [.v (.bool bv)]) (boD_get hbv)
                 cases hp207; clear hl207
                 rcases hR207 with _ | ⟨hd207_0, _ | _⟩
                 obtain rfl := hd207_0.v_out
                 clear hd207_0
                 refine goCh Hz (.g rfl rfl rfl rfl (fun _ h_ => y_idx h_ rfl rfl Tryz.underlying67 sz4rl (i) rfl (by omega)) <| .loadAt1Z (hrg207 m141 rfl) (q := 0) rfl rfl rfl Tryz.underlying4 rfl <| .pickF rfl rfl <| .c rfl (fun _ h_ => y_idxA h_ rfl rfl Tryz.underlying68 sz4rl 0 rfl (by decide) (off := 0) rfl) <| .nil) ?_
                 clear Hz Az; intro Az Hz
                 refine wpList_plain rfl (fun K hK => ?_)
                 refine e_store1 Hz m141 60 rfl rfl rfl rfl rfl sz4rl (by dsimp only [List.set] <;> rfl) ?_
                 clear m141; intro w212 m212 hB212
                 clear hB212
                 refine hK _ _ ?_; clear hK K
                 refine wpList_nil ?_
                 have hgj : g0 = false := hb197
                 have hge : ([g0, g1, g2, g3, g4, g5].set 0 ([g0, g1, g2, g3, g4, g5].getD 0 false || bv)) = [bv, g1, g2, g3, g4, g5] := by rw [show [g0, g1, g2, g3, g4, g5].getD 0 false = false from hgj]; rfl
                 rw [hge] at m212
                 show K26 _ _
                 exact hC26 _ _ ⟨bv, g1, g2, g3, g4, g5, (absurd hgj (by rw [hg0]; decide)), Hz.only [1, 2, 7, 10, 13, 14], m212.only [60, 1, 2, 3, 4, 5, 6, 7, 8]⟩
               ·
                refine wp_region_lit ?_
                refine goCh Hz (.move rfl <| .move rfl <| .c rfl (fun _ h_ => y_idxA h_ rfl rfl Tryz.underlying68 sz4rl 1 rfl (by decide) (off := 1) rfl) <| .loadB1 m141 (i := 60) rfl rfl rfl Tryz.underlying4 rfl <| .move rfl <| .nil) ?_
                clear Hz Az; intro Az Hz
                refine bool_cases Hz (t := 106) rfl ?_ ?_
                ·
                 clear Hz; intro hb218 Hz
                 try simp only [Q1x, Q2x, Q3x, Q4x, Q5x, Q6x, Q7x, Q8x, Q9x, Q0x, Qax, Qbx] at hb218
                 refine goCh Hz (.sk <| .sk <| .sk <| .sk <| .pickT rfl rfl <| .c rfl (fun _ h_ => y_idxA h_ rfl rfl Tryz.underlying68 sz4rl 1 rfl (by decide) (off := 1) rfl) <| .nil) ?_
                 clear Hz Az; intro Az Hz
                 refine wpList_plain rfl (fun K hK => ?_)
                 refine e_store1 Hz m141 60 rfl rfl rfl rfl rfl sz4rl (by dsimp only [List.set] <;> rfl) ?_
                 clear m141; intro w225 m225 hB225
                 clear hB225
                 refine hK _ _ ?_; clear hK K
                 refine wpList_nil ?_
                 have hgj : g1 = true := hb218
                 have hge : ([g0, g1, g2, g3, g4, g5].set 1 ([g0, g1, g2, g3, g4, g5].getD 1 false || bv)) = [g0, true, g2, g3, g4, g5] := by rw [show [g0, g1, g2, g3, g4, g5].getD 1 false = true from hgj]; rfl
                 rw [hge] at m225
                 show K26 _ _
                 exact hC26 _ _ ⟨g0, true, g2, g3, g4, g5, hg0, Hz.only [1, 2, 7, 10, 13, 14], m225.only [60, 1, 2, 3, 4, 5, 6, 7, 8]⟩
                ·
                 clear Hz; intro hb218 Hz
                 try simp only [Q1x, Q2x, Q3x, Q4x, Q5x, Q6x, Q7x, Q8x, Q9x, Q0x, Qax, Qbx] at hb218
                 refine goCh Hz (.moveZ rfl <| .moveZ rfl <| .nil) ?_
                 clear Hz Az; intro Az Hz
                 obtain ⟨gx228, ox228, vx228, hp228, hl228, hR228, hrg228⟩ := h2.extA (i) (r := [.v (.bool bv)]) (boD_get hbv)
                 cases hp228; clear hl228
                 rcases hR228 with _ | ⟨hd228_0, _ | _⟩
                 obtain rfl := hd228_0.v_out
                 clear hd228_0
                 refine goCh Hz (.g rfl rfl rfl rfl (fun _ h_ => y_idx h_ rfl rfl Tryz.underlying67 sz4rl (i) rfl (by omega)) <| .loadAt1Z (hrg228 m141 rfl) (q := 0) rfl rfl rfl Tryz.underlying4 rfl <| .pickF rfl rfl <| .c rfl (fun _ h_ => y_idxA h_ rfl rfl Tryz.underlying68 sz4rl 1 rfl (by decide) (off := 1) rfl) <| .nil) ?_
                 clear Hz Az; intro Az Hz
                 refine wpList_plain rfl (fun K hK => ?_)
                 refine e_store1 Hz m141 60 rfl rfl rfl rfl rfl sz4rl (by dsimp only [List.set] <;> rfl) ?_
                 clear m141; intro w233 m233 hB233
                 clear hB233
                 refine hK _ _ ?_; clear hK K
                 refine wpList_nil ?_
                 have hgj : g1 = false := hb218
                 have hge : ([g0, g1, g2, g3, g4, g5].set 1 ([g0, g1, g2, g3, g4, g5].getD 1 false || bv)) = [g0, bv, g2, g3, g4, g5] := by rw [show [g0, g1, g2, g3, g4, g5].getD 1 false = false from hgj]; rfl
                 rw [hge] at m233
                 show K26 _ _
                 exact hC26 _ _ ⟨g0, bv, g2, g3, g4, g5, hg0, Hz.only [1, 2, 7, 10, 13, 14], m233.only [60, 1, 2, 3, 4, 5, 6, 7, 8]⟩
               ·
                refine wp_region_lit ?_
                refine goCh Hz (.move rfl <| .move rfl <| .c rfl (fun _ h_ => y_idxA h_ rfl rfl Tryz.underlying68 sz4rl 2 rfl (by decide) (off := 2) rfl) <| .loadB1 m141 (i := 60) rfl rfl rfl Tryz.underlying4 rfl <| .move rfl <| .nil) ?_
                clear Hz Az; intro Az Hz
                refine bool_cases Hz (t := 106) rfl ?_ ?_
                ·
                 clear Hz; intro hb239 Hz
                 try simp only [Q1x, Q2x, Q3x, Q4x, Q5x, Q6x, Q7x, Q8x, Q9x, Q0x, Qax, Qbx] at hb239
                 refine goCh Hz (.sk <| .sk <| .sk <| .sk <| .pickT rfl rfl <| .c rfl (fun _ h_ => y_idxA h_ rfl rfl Tryz.underlying68 sz4rl 2 rfl (by decide) (off := 2) rfl) <| .nil) ?_
                 clear Hz Az; intro Az Hz
                 refine wpList_plain rfl (fun K hK => ?_)
                 refine e_store1 Hz m141 60 rfl rfl rfl rfl rfl sz4rl (by dsimp only [List.set] <;> rfl) ?_
                 clear m141; intro w246 m246 hB246
                 clear hB246
                 refine hK _ _ ?_; clear hK K
                 refine wpList_nil ?_
                 have hgj : g2 = true := hb239
                 have hge : ([g0, g1, g2, g3, g4, g5].set 2 ([g0, g1, g2, g3, g4, g5].getD 2 false || bv)) = [g0, g1, true, g3, g4, g5] := by rw [show [g0, g1, g2, g3, g4, g5].getD 2 false = true from hgj]; rfl
                 rw [hge] at m246
                 show K26 _ _
                 exact hC26 _ _ ⟨g0, g1, true, g3, g4, g5, hg0, Hz.only [1, 2, 7, 10, 13, 14], m246.only [60, 1, 2, 3, 4, 5, 6, 7, 8]⟩
                ·
                 clear Hz; intro hb239 Hz
                 try simp only [Q1x, Q2x, Q3x, Q4x, Q5x, Q6x, Q7x, Q8x, Q9x, Q0x, Qax, Qbx] at hb239
                 refine goCh Hz (.moveZ rfl <| .moveZ rfl <| .nil) ?_
                 clear Hz Az; intro Az Hz
                 obtain ⟨gx249, ox249, vx249, hp249, hl249, hR249, hrg249⟩ := h2.extA (i) (r := [.v (.bool bv)]) (boD_get hbv)
                 cases hp249; clear hl249
                 rcases hR249 with _ | ⟨hd249_0, _ | _⟩
                 obtain rfl := hd249_0.v_out
                 clear hd249_0
                 refine goCh Hz (.g rfl rfl rfl rfl (fun _ h_ => y_idx h_ rfl rfl Tryz.underlying67 sz4rl (i) rfl (by omega)) <| .loadAt1Z (hrg249 m141 rfl) (q := 0) rfl rfl rfl Tryz.underlying4 rfl <| .pickF rfl rfl <| .c rfl (fun _ h_ => y_idxA h_ rfl rfl Tryz.underlying68 sz4rl 2 rfl (by decide) (off := 2) rfl) <| .nil) ?_
                 clear Hz Az; intro Az Hz
                 refine wpList_plain rfl (fun K hK => ?_)
                 refine e_store1 Hz m141 60 rfl rfl rfl rfl rfl sz4rl (by dsimp only [List.set] <;> rfl) ?_
                 clear m141; intro w254 m254 hB254
                 clear hB254
                 refine hK _ _ ?_; clear hK K
                 refine wpList_nil ?_
                 have hgj : g2 = false := hb239
                 have hge : ([g0, g1, g2, g3, g4, g5].set 2 ([g0, g1, g2, g3, g4, g5].getD 2 false || bv)) = [g0, g1, bv, g3, g4, g5] := by rw [show [g0, g1, g2, g3, g4, g5].getD 2 false = false from hgj]; rfl
                 rw [hge] at m254
                 show K26 _ _
                 exact hC26 _ _ ⟨g0, g1, bv, g3, g4, g5, hg0, Hz.only [1, 2, 7, 10, 13, 14], m254.only [60, 1, 2, 3, 4, 5, 6, 7, 8]⟩
               ·
                refine wp_region_lit ?_
                refine goCh Hz (.move rfl <| .move rfl <| .c rfl (fun _ h_ => y_idxA h_ rfl rfl Tryz.underlying68 sz4rl 3 rfl (by decide) (off := 3) rfl) <| .loadB1 m141 (i := 60) rfl rfl rfl Tryz.underlying4 rfl <| .move rfl <| .nil) ?_
                clear Hz Az; intro Az Hz
                refine bool_cases Hz (t := 106) rfl ?_ ?_
                ·
                 clear Hz; intro hb260 Hz
                 try simp only [Q1x, Q2x, Q3x, Q4x, Q5x, Q6x, Q7x, Q8x, Q9x, Q0x, Qax, Qbx] at hb260
                 refine goCh Hz (.sk <| .sk <| .sk <| .sk <| .pickT rfl rfl <| .c rfl (fun _ h_ => y_idxA h_ rfl rfl Tryz.underlying68 sz4rl 3 rfl (by decide) (off := 3) rfl) <| .nil) ?_
                 clear Hz Az; intro Az Hz
                 refine wpList_plain rfl (fun K hK => ?_)
                 refine e_store1 Hz m141 60 rfl rfl rfl rfl rfl sz4rl (by dsimp only [List.set] <;> rfl) ?_
                 clear m141; intro w267 m267 hB267
                 clear hB267
                 refine hK _ _ ?_; clear hK K
                 refine wpList_nil ?_
                 have hgj : g3 = true := hb260
                 have hge : ([g0, g1, g2, g3, g4, g5].set 3 ([g0, g1, g2, g3, g4, g5].getD 3 false || bv)) = [g0, g1, g2, true, g4, g5] := by rw [show [g0, g1, g2, g3, g4, g5].getD 3 false = true from hgj]; rfl
                 rw [hge] at m267
                 show K26 _ _
                 exact hC26 _ _ ⟨g0, g1, g2, true, g4, g5, hg0, Hz.only [1, 2, 7, 10, 13, 14], m267.only [60, 1, 2, 3, 4, 5, 6, 7, 8]⟩
                ·
                 clear Hz; intro hb260 Hz
                 try simp only [Q1x, Q2x, Q3x, Q4x, Q5x, Q6x, Q7x, Q8x, Q9x, Q0x, Qax, Qbx] at hb260
                 refine goCh Hz (.moveZ rfl <| .moveZ rfl <| .nil) ?_
                 clear Hz Az; intro Az Hz
                 obtain ⟨gx270, ox270, vx270, hp270, hl270, hR270, hrg270⟩ := h2.extA (i) (r := [.v (.bool bv)]) (boD_get hbv)
                 cases hp270; clear hl270
                 rcases hR270 with _ | ⟨hd270_0, _ | _⟩
                 obtain rfl := hd270_0.v_out
                 clear hd270_0
                 refine goCh Hz (.g rfl rfl rfl rfl (fun _ h_ => y_idx h_ rfl rfl Tryz.underlying67 sz4rl (i) rfl (by omega)) <| .loadAt1Z (hrg270 m141 rfl) (q := 0) rfl rfl rfl Tryz.underlying4 rfl <| .pickF rfl rfl <| .c rfl (fun _ h_ => y_idxA h_ rfl rfl Tryz.underlying68 sz4rl 3 rfl (by decide) (off := 3) rfl) <| .nil) ?_
                 clear Hz Az; intro Az Hz
                 refine wpList_plain rfl (fun K hK => ?_)
                 refine e_store1 Hz m141 60 rfl rfl rfl rfl rfl sz4rl (by dsimp only [List.set] <;> rfl) ?_
                 clear m141; intro w275 m275 hB275
                 clear hB275
                 refine hK _ _ ?_; clear hK K
                 refine wpList_nil ?_
                 have hgj : g3 = false := hb260
                 have hge : ([g0, g1, g2, g3, g4, g5].set 3 ([g0, g1, g2, g3, g4, g5].getD 3 false || bv)) = [g0, g1, g2, bv, g4, g5] := by rw [show [g0, g1, g2, g3, g4, g5].getD 3 false = false from hgj]; rfl
                 rw [hge] at m275
                 show K26 _ _
                 exact hC26 _ _ ⟨g0, g1, g2, bv, g4, g5, hg0, Hz.only [1, 2, 7, 10, 13, 14], m275.only [60, 1, 2, 3, 4, 5, 6, 7, 8]⟩
               ·
                refine wp_region_lit ?_
                refine goCh Hz (.move rfl <| .move rfl <| .c rfl (fun _ h_ => y_idxA h_ rfl rfl Tryz.underlying68 sz4rl 4 rfl (by decide) (off := 4) rfl) <| .loadB1 m141 (i := 60) rfl rfl rfl Tryz.underlying4 rfl <| .move rfl <| .nil) ?_
                clear Hz Az; intro Az Hz
                refine bool_cases Hz (t := 106) rfl ?_ ?_
                ·
                 clear Hz; intro hb281 Hz
                 try simp only [Q1x, Q2x, Q3x, Q4x, Q5x, Q6x, Q7x, Q8x, Q9x, Q0x, Qax, Qbx] at hb281
                 refine goCh Hz (.sk <| .sk <| .sk <| .sk <| .pickT rfl rfl <| .c rfl (fun _ h_ => y_idxA h_ rfl rfl Tryz.underlying68 sz4rl 4 rfl (by decide) (off := 4) rfl) <| .nil) ?_
                 clear Hz Az; intro Az Hz
                 refine wpList_plain rfl (fun K hK => ?_)
                 refine e_store1 Hz m141 60 rfl rfl rfl rfl rfl sz4rl (by dsimp only [List.set] <;> rfl) ?_
                 clear m141; intro w288 m288 hB288
                 clear hB288
                 refine hK _ _ ?_; clear hK K
                 refine wpList_nil ?_
                 have hgj : g4 = true := hb281
                 have hge : ([g0, g1, g2, g3, g4, g5].set 4 ([g0, g1, g2, g3, g4, g5].getD 4 false || bv)) = [g0, g1, g2, g3, true, g5] := by rw [show [g0, g1, g2, g3, g4, g5].getD 4 false = true from hgj]; rfl
                 rw [hge] at m288
                 show K26 _ _
                 exact hC26 _ _ ⟨g0, g1, g2, g3, true, g5, hg0, Hz.only [1, 2, 7, 10, 13, 14], m288.only [60, 1, 2, 3, 4, 5, 6, 7, 8]⟩
                ·
                 clear Hz; intro hb281 Hz
                 try simp only [Q1x, Q2x, Q3x, Q4x, Q5x, Q6x, Q7x, Q8x, Q9x, Q0x, Qax, Qbx] at hb281
                 refine goCh Hz (.moveZ rfl <| .moveZ rfl <| .nil) ?_
                 clear Hz Az; intro Az Hz
                 obtain ⟨gx291, ox291, vx291, hp291, hl291, hR291, hrg291⟩ := h2.extA (i) (r := [.v (.bool bv)]) (boD_get hbv)
                 cases hp291; clear hl291
                 rcases hR291 with _ | ⟨hd291_0, _ | _⟩
                 obtain rfl := hd291_0.v_out
                 clear hd291_0
                 refine goCh Hz (.g rfl rfl rfl rfl (fun _ h_ => y_idx h_ rfl rfl Tryz.underlying67 sz4rl (i) rfl (by omega)) <| .loadAt1Z (hrg291 m141 rfl) (q := 0) rfl rfl rfl Tryz.underlying4 rfl <| .pickF rfl rfl <| .c rfl (fun _ h_ => y_idxA h_ rfl rfl Tryz.underlying68 sz4rl 4 rfl (by decide) (off := 4) rfl) <| .nil) ?_
                 clear Hz Az; intro Az Hz
                 refine wpList_plain rfl (fun K hK => ?_)
                 refine e_store1 Hz m141 60 rfl rfl rfl rfl rfl sz4rl (by dsimp only [List.set] <;> rfl) ?_
                 clear m141; intro w296 m296 hB296
                 clear hB296
                 refine hK _ _ ?_; clear hK K
                 refine wpList_nil ?_
                 have hgj : g4 = false := hb281
                 have hge : ([g0, g1, g2, g3, g4, g5].set 4 ([g0, g1, g2, g3, g4, g5].getD 4 false || bv)) = [g0, g1, g2, g3, bv, g5] := by rw [show [g0, g1, g2, g3, g4, g5].getD 4 false = false from hgj]; rfl
                 rw [hge] at m296
                 show K26 _ _
                 exact hC26 _ _ ⟨g0, g1, g2, g3, bv, g5, hg0, Hz.only [1, 2, 7, 10, 13, 14], m296.only [60, 1, 2, 3, 4, 5, 6, 7, 8]⟩
               ·
                refine wp_region_lit ?_
                refine goCh Hz (.move rfl <| .move rfl <| .c rfl (fun _ h_ => y_idxA h_ rfl rfl Tryz.underlying68 sz4rl 5 rfl (by decide) (off := 5) rfl) <| .loadB1 m141 (i := 60) rfl rfl rfl Tryz.underlying4 rfl <| .move rfl <| .nil) ?_
                clear Hz Az; intro Az Hz
                refine bool_cases Hz (t := 106) rfl ?_ ?_
                ·
                 clear Hz; intro hb302 Hz
                 try simp only [Q1x, Q2x, Q3x, Q4x, Q5x, Q6x, Q7x, Q8x, Q9x, Q0x, Qax, Qbx] at hb302
                 refine goCh Hz (.sk <| .sk <| .sk <| .sk <| .pickT rfl rfl <| .c rfl (fun _ h_ => y_idxA h_ rfl rfl Tryz.underlying68 sz4rl 5 rfl (by decide) (off := 5) rfl) <| .nil) ?_
                 clear Hz Az; intro Az Hz
                 refine wpList_plain rfl (fun K hK => ?_)
                 refine e_store1 Hz m141 60 rfl rfl rfl rfl rfl sz4rl (by dsimp only [List.set] <;> rfl) ?_
                 clear m141; intro w309 m309 hB309
                 clear hB309
                 refine hK _ _ ?_; clear hK K
                 refine wpList_nil ?_
                 have hgj : g5 = true := hb302
                 have hge : ([g0, g1, g2, g3, g4, g5].set 5 ([g0, g1, g2, g3, g4, g5].getD 5 false || bv)) = [g0, g1, g2, g3, g4, true] := by rw [show [g0, g1, g2, g3, g4, g5].getD 5 false = true from hgj]; rfl
                 rw [hge] at m309
                 show K26 _ _
                 exact hC26 _ _ ⟨g0, g1, g2, g3, g4, true, hg0, Hz.only [1, 2, 7, 10, 13, 14], m309.only [60, 1, 2, 3, 4, 5, 6, 7, 8]⟩
                ·
                 clear Hz; intro hb302 Hz
                 try simp only [Q1x, Q2x, Q3x, Q4x, Q5x, Q6x, Q7x, Q8x, Q9x, Q0x, Qax, Qbx] at hb302
                 refine goCh Hz (.moveZ rfl <| .moveZ rfl <| .nil) ?_
                 clear Hz Az; intro Az Hz
                 obtain ⟨gx312, ox312, vx312, hp312, hl312, hR312, hrg312⟩ := h2.extA (i) (r := [.v (.bool bv)]) (boD_get hbv)
                 cases hp312; clear hl312
                 rcases hR312 with _ | ⟨hd312_0, _ | _⟩
                 obtain rfl := hd312_0.v_out
                 clear hd312_0
                 refine goCh Hz (.g rfl rfl rfl rfl (fun _ h_ => y_idx h_ rfl rfl Tryz.underlying67 sz4rl (i) rfl (by omega)) <| .loadAt1Z (hrg312 m141 rfl) (q := 0) rfl rfl rfl Tryz.underlying4 rfl <| .pickF rfl rfl <| .c rfl (fun _ h_ => y_idxA h_ rfl rfl Tryz.underlying68 sz4rl 5 rfl (by decide) (off := 5) rfl) <| .nil) ?_
                 clear Hz Az; intro Az Hz
                 refine wpList_plain rfl (fun K hK => ?_)
                 refine e_store1 Hz m141 60 rfl rfl rfl rfl rfl sz4rl (by dsimp only [List.set] <;> rfl) ?_
                 clear m141; intro w317 m317 hB317
                 clear hB317
                 refine hK _ _ ?_; clear hK K
                 refine wpList_nil ?_
                 have hgj : g5 = false := hb302
                 have hge : ([g0, g1, g2, g3, g4, g5].set 5 ([g0, g1, g2, g3, g4, g5].getD 5 false || bv)) = [g0, g1, g2, g3, g4, bv] := by rw [show [g0, g1, g2, g3, g4, g5].getD 5 false = false from hgj]; rfl
                 rw [hge] at m317
                 show K26 _ _
                 exact hC26 _ _ ⟨g0, g1, g2, g3, g4, bv, hg0, Hz.only [1, 2, 7, 10, 13, 14], m317.only [60, 1, 2, 3, 4, 5, 6, 7, 8]⟩
             rcases Nat.eq_zero_or_pos f with hf0 | hf0
             ·
              refine wp_region_lit ?_
              refine goCh Hz (.move rfl <| .move rfl <| .move rfl <| .move rfl <| .nil) ?_
              clear Hz Az; intro Az Hz
              obtain ⟨gx322, ox322, vx322, hp322, hl322, hR322, hrg322⟩ := h2.extA (i) (r := [.v (.bool bv)]) (boD_get hbv)
              cases hp322; clear hl322
              rcases hR322 with _ | ⟨hd322_0, _ | _⟩
              obtain rfl := hd322_0.v_out
              clear hd322_0
              refine goCh Hz (.c rfl (fun _ h_ => y_idx h_ rfl rfl Tryz.underlying67 sz4rl (i) rfl (by omega)) <| .loadAt1 (hrg322 m140 rfl) (q := 0) rfl rfl rfl Tryz.underlying4 rfl <| .buildG rfl zc55rl ps55rl rfl <| .nil) ?_
              clear Hz Az; intro Az Hz
              refine wpList_plain rfl (fun K hK => ?_)
              refine e_call Hz Tryz.func23 rfl rfl rfl rfl (rRecvSelf_s _ R (stE k [g0, g1, g2, g3, g4, g5] y) (nilP p9) 4 1 (f : Int) 0 1 0 0 0 bv _ hst.2.1.symm hst.2.2.1.symm (by rw [hst.2.2.1]; omega) (m140.into [(1, 1), (2, 2), (3, 3), (4, 4), (5, 5), (6, 6), (7, 7), (8, 8)] (by decide) rfl)) ?_
              rintro e w326 ⟨rfl, hm326⟩
              have mx326 := m140.back hm326 [(1, 1), (2, 2), (3, 3), (4, 4), (5, 5), (6, 6), (7, 7), (8, 8)] (by decide); clear hm326 m140
              have m326 : MemOk _ _ [(1, _), (2, _), (3, _), (4, _), (5, _), (6, _), (7, _), (8, _), (60, _)] _ := mx326.only [1, 2, 3, 4, 5, 6, 7, 8, 60]; clear mx326
              refine ⟨_, rfl, ?_⟩; clear Hz Az; intro Az Hz
              refine hK _ _ ?_; clear hK K
              refine wpList_nil ?_
              subst hf0
              show K25 _ _
              exact hC25 _ _ ⟨y, p9, hyl, Hz.only [1, 2, 7, 10, 13, 14, 15], by rw [show ([g0, g1, g2, g3, g4, g5].set 0 ([g0, g1, g2, g3, g4, g5].getD 0 false || bv)) = [g0, g1, g2, g3, g4, g5] from by rw [hg0]; rfl]; exact m326.only [60, 1, 2, 3, 4, 5, 6, 7, 8]⟩
             ·
              refine wp_region_lit ?_
              refine goCh Hz (.move rfl <| .move rfl <| .move rfl <| .move rfl <| .nil) ?_
              clear Hz Az; intro Az Hz
              obtain ⟨gx332, ox332, vx332, hp332, hl332, hR332, hrg332⟩ := h2.extA (i) (r := [.v (.bool bv)]) (boD_get hbv)
              cases hp332; clear hl332
              rcases hR332 with _ | ⟨hd332_0, _ | _⟩
              obtain rfl := hd332_0.v_out
              clear hd332_0
              refine goCh Hz (.c rfl (fun _ h_ => y_idx h_ rfl rfl Tryz.underlying67 sz4rl (i) rfl (by omega)) <| .loadAt1 (hrg332 m140 rfl) (q := 0) rfl rfl rfl Tryz.underlying4 rfl <| .buildG rfl zc55rl ps55rl rfl <| .nil) ?_
              clear Hz Az; intro Az Hz
              refine wpList_plain rfl (fun K hK => ?_)
              refine e_call Hz Tryz.func23 rfl rfl rfl rfl (rRecvVoteOk_s _ R (stE k [g0, g1, g2, g3, g4, g5] y) (nilP p9) 1 (f : Int) 0 1 0 0 0 bv _ hst.1 hst.2.1.symm hst.2.2.1.symm (by rw [hst.2.2.1]; omega) hst.2.2.2.symm (m140.into [(1, 1), (2, 2), (3, 3), (4, 4), (5, 5), (6, 6), (7, 7), (8, 8)] (by decide) rfl)) ?_
              rintro e w336 ⟨p6, o6, rfl, hm336⟩
              have mx336 := m140.back hm336 [(1, 1), (2, 2), (3, 3), (4, 4), (5, 5), (6, 6), (7, 7), (8, 8), (11, 11), (12, 12)] (by decide); clear hm336 m140
              have m336 : MemOk _ _ [(1, _), (2, _), (3, _), (4, _), (5, _), (6, _), (7, _), (8, _), (11, _), (12, _), (60, _)] _ := mx336.only [1, 2, 3, 4, 5, 6, 7, 8, 11, 12, 60]; clear mx336
              refine ⟨_, rfl, ?_⟩; clear Hz Az; intro Az Hz
              refine hK _ _ ?_; clear hK K
              refine wpList_nil ?_
              obtain ⟨y6, hy6, he6⟩ := vote_step (k := k) (f := f) (by omega) (by omega) (by omega) g0 g1 g2 g3 g4 g5 bv y hyl
              rw [he6] at m336
              show K25 _ _
              exact hC25 _ _ ⟨y6, p6, hy6, Hz.only [1, 2, 7, 10, 13, 14, 15], m336.only [60, 1, 2, 3, 4, 5, 6, 7, 8]⟩
           refine wp_region_lit ?_
           refine goCh Hz (.move rfl <| .move rfl <| .nil) ?_
           clear Hz Az; intro Az Hz
           obtain ⟨gx340, ox340, hp340, hl340, hrg340⟩ := h1.extN (i) (by omega)
           cases hp340; clear hl340
           refine goCh Hz (.c rfl (fun _ h_ => y_idx h_ rfl rfl Tryz.underlying27 sz5rl (i) rfl (by omega)) <| .loadAt1 (hrg340 m134 rfl) (q := 0) rfl rfl rfl Tryz.underlying5 rfl <| .conv rfl Tryz.underlying5 Tryz.underlying3 (r := yl.getD i 0) (IntWalk.i64_in _ (by omega)) <| .move rfl <| .rem rfl rfl (r := (f : Int)) (by omega) (by rw [Int.tmod_eq_emod_of_nonneg (by omega)]; omega) <| .assign rfl <| .nil) ?_
           clear Hz Az; intro Az Hz
           refine wpList_nil ?_
           show K24 _ _
           exact hC24 _ _ ⟨Hz.only [1, 2, 7, 10, 13, 14, 15], m134.only [60, 1, 2, 3, 4, 5, 6, 7, 8]⟩
          ·
           clear Hz; intro hb139 Hz
           try simp only [Q1x, Q2x, Q3x, Q4x, Q5x, Q6x, Q7x, Q8x, Q9x, Q0x, Qax, Qbx] at hb139
           refine wp_cond_false (Hz.ev (x := .tmp 84) rfl) ?_
           refine wp_exit ?_
           refine hK21 _ _ ?_; clear hK21; try clear K21
           refine regS Hz (.assign rfl <| .nil) ?_
           clear Hz Az; intro Az Hz
           refine wp_ret ?_
           try dsimp only [Exit.then, Exit.inBlock]
           refine (ret1 (fn := Tryz.f6) Hz rfl rfl ?_)
           exact ⟨rfl, m134.below⟩
end Go.Proofs.YtndnnlbdnjndiaaGreat.K
