/- RaftAsks' walk. -/
import Derived.Test.YtndnnlbdnjndiaaGreatRafA
namespace Go.Proofs.YtndnnlbdnjndiaaGreat.K
open Go.ChangeShapes Go.WideShapes Go.ChangeAt Go.RowKit
set_option linter.unusedVariables false
set_option linter.unusedSimpArgs false

theorem fl25ra : flatS Tryz.prog 25 [.int .i64 0, .int .i64 0] = true := by kernel_rfl
theorem fl29ra : flatS Tryz.prog 29 [.int .i64 0, .int .i64 0, .slice none 0 0, .slice none 0 0] = true := by kernel_rfl
theorem inf3ra : (Tryz.prog.info? 3).map (fun i => (i.zero, i.size, i.bytes)) = some (some (.int .i64 0), 1, 8) := by kernel_rfl
theorem ps32ra : placesS Tryz.prog 32 = some [(0, 2), (2, 4), (6, 1)] := by kernel_rfl
theorem ps55ra : placesS Tryz.prog 55 = some [(0, 1), (1, 1), (2, 1), (3, 1), (4, 1), (5, 1), (6, 1), (7, 1), (8, 1), (9, 1), (10, 4), (14, 1), (15, 1), (16, 1), (17, 1), (18, 1)] := by kernel_rfl
theorem sz46ra : (Tryz.prog.info? 46).map (·.size) = some 3 := by kernel_rfl
theorem sz55ra : (Tryz.prog.info? 55).map (·.size) = some 19 := by kernel_rfl
theorem zc25ra : ((Tryz.prog.info? 25).bind (·.zero)).map (·.cells.toList) = some [.int .i64 0, .int .i64 0] := by kernel_rfl
theorem zc29ra : ((Tryz.prog.info? 29).bind (·.zero)).map (·.cells.toList) = some [.int .i64 0, .int .i64 0, .slice none 0 0, .slice none 0 0] := by kernel_rfl
theorem zc32ra : ((Tryz.prog.info? 32).bind (·.zero)).map (·.cells.toList) = some [.int .i64 0, .int .i64 0, .int .i64 0, .int .i64 0, .slice none 0 0, .slice none 0 0, .slice none 0 0] := by kernel_rfl
theorem zc46ra : ((Tryz.prog.info? 46).bind (·.zero)).map (·.cells.toList) = some [.slice none 0 0, .slice none 0 0, .bool false] := by kernel_rfl
theorem zc55ra : ((Tryz.prog.info? 55).bind (·.zero)).map (·.cells.toList) = some [.int .i64 0, .int .i64 0, .int .i64 0, .int .i64 0, .int .i64 0, .int .i64 0, .int .i64 0, .int .i64 0, .bool false, .slice none 0 0, .int .i64 0, .int .i64 0, .slice none 0 0, .slice none 0 0, .slice none 0 0, .int .i64 0, .int .i64 0, .int .i64 0, .int .i64 0] := by kernel_rfl

set_option maxRecDepth 100000
set_option maxHeartbeats 4000000
theorem asks_walk (q u v x : Nat) (w0 : World) (hq : q ≤ 255) (hu : u ≤ 255) (hv : v ≤ 255) (hx : x ≤ 255) :
   Calls Tryz.prog 8 #[.int .u8 (q : Int), .int .u8 (u : Int), .int .u8 (v : Int), .int .u8 (x : Int)] w0 fun e w' => e = .returned (.bool true) ∧ Below w0.heap.size w0 w' := by
 refine enter (fn := Tryz.f8) Tryz.func8 rfl Tryz.ntmps8 rfl (fun Az Hz => ?_)
 simp only [List.zipIdx_cons, List.zipIdx_nil, List.map_cons, List.map_nil, Nat.reduceAdd, Nat.zero_add] at Hz
 have m0 := MemOk.start (fun _ => False) w0
 refine regS Hz (.assign rfl <| .nil) ?_
 clear Hz Az; intro Az Hz
 refine wp_seq_k (fun K0 hK0 => ?_)
 refine wp_seq_k (fun K1 hK1 => ?_)
 refine wp_region_lit ?_
 refine wpList_plain rfl (fun K hK => ?_)
 refine e_call Hz Tryz.func10 rfl rfl rfl rfl (rknown_any _) ?_
 rintro e w2 ⟨rfl, hb2⟩
 have m3 := m0.later hb2
 clear m0
 clear hb2
 refine ⟨_, rfl, ?_⟩; clear Hz Az; intro Az Hz
 refine hK _ _ ?_; clear hK K
 refine goCh Hz (.not rfl .nil) ?_
 clear Hz Az; intro Az Hz
 refine wpList_nil ?_
 refine hK1 _ _ ?_; clear hK1; try clear K1
 refine wp_cond_false (Hz.ev (x := .tmp 16) rfl) ?_
 refine wp_skip ?_
 refine hK0 _ _ ?_; clear hK0; try clear K0
 refine wp_seq_k (fun K2 hK2 => ?_)
 refine wp_region_lit ?_
 refine goCh Hz (.build rfl zc25ra fl25ra rfl (by dsimp only [setL, List.set] <;> rfl) .nil) ?_
 clear Hz Az; intro Az Hz
 refine wpList_plain rfl (fun K hK => ?_)
 refine e_litN Hz m3 40 (k := .i64) rfl rfl Tryz.underlying26 inf3ra rfl rfl rfl rfl ?_
 clear Hz Az m3; intro g8 Az w9 Hz m9
 refine hK _ _ ?_; clear hK K
 refine goCh Hz (.build rfl zc29ra fl29ra rfl (by dsimp only [setL, List.set] <;> rfl) <| .buildG rfl zc32ra ps32ra rfl <| .nil) ?_
 clear Hz Az; intro Az Hz
 have m12 := m9.freezeN 40 rfl; clear m9
 have m13 := m12.dat 41 rfl (Rd.nilN _ _ .u8 none); clear m12
 have m14 := m13.dat 42 rfl (Rd.nil4 _ _); clear m13
 refine wpList_plain rfl (fun K hK => ?_)
 refine e_call Hz Tryz.func11 rfl rfl rfl rfl (rNew_s _ 1 1 0 (-1) 0 0 [0, 1, 2] [] [] _ _ _ _ _ _ _ _ (by decide) (by decide) (by decide) (by decide) (by intro e he; cases he) (m14.into [(5, 40), (6, 41), (7, 42)] (by decide) rfl)) ?_
 rintro e w15 ⟨R, p1, rfl, hm15⟩
 have mx15 := m14.back hm15 [(1, 1), (2, 2), (3, 3), (4, 4), (5, 5), (6, 6), (7, 7), (8, 8)] (by decide); clear hm15 m14
 have m15 : MemOk _ _ [(1, _), (2, _), (3, _), (4, _), (5, _), (6, _), (7, _), (8, _)] _ := mx15.only [1, 2, 3, 4, 5, 6, 7, 8]; clear mx15
 refine ⟨_, rfl, ?_⟩; clear Hz Az; intro Az Hz
 refine hK _ _ ?_; clear hK K
 refine goCh Hz (.assign rfl .nil) ?_
 clear Hz Az; intro Az Hz
 refine wpList_nil ?_
 refine hK2 _ _ ?_; clear hK2; try clear K2
 refine wp_seq_k (fun K3 hK3 => ?_)
 replace Hz : Has 125 [(0, _), (1, _), (2, _), (3, _), (8, _), (9, _)] Az := Hz.only [0, 1, 2, 3, 8, 9]
 refine regS Hz (.assign rfl <| .nil) ?_
 clear Hz Az; intro Az Hz
 refine wp_block ?_
 refine wp_loop_ghost (fun g a w => ∃ (j : Nat) (p9 : RP), j ≤ (q % 60) ∧ g = (q % 60) - j ∧ Has 125 [(0, .int .u8 (q : Nat)), (1, .int .u8 (u : Nat)), (2, .int .u8 (v : Nat)), (3, .int .u8 (x : Nat)), (9, .pointer (some ⟨R, 0, none⟩)), (10, .int .i64 ((j : Nat)))] a ∧ MemOk (cx (fun _ => False) w0) w0 (rfM R (tickN A0 j) (nilP p9)) w) ((q % 60)) ?_ ?_
 · exact ⟨0, p1, Nat.zero_le _, rfl, Hz.only [0, 1, 2, 3, 9, 10], m15.only [1, 2, 3, 4, 5, 6, 7, 8]⟩
 ·
  clear Hz m15
  rintro g Az w20 ⟨j, p9, hjl, hg, Hz, m20⟩
  refine wp_seq_k (fun K4 hK4 => ?_)
  refine regS Hz (.move rfl <| .move rfl <| .rem rfl rfl (r := ((q % 60 : Nat) : Int)) (by omega) (by rw [Int.tmod_eq_emod_of_nonneg (by omega)]; omega) <| .conv rfl Tryz.underlying5 Tryz.underlying3 (r := ((q % 60 : Nat) : Int)) (IntWalk.i64_in _ (by omega)) <| .lss rfl rfl <| .nil) ?_
  clear Hz Az; intro Az Hz
  refine bool_cases Hz (t := 26) rfl ?_ ?_
  ·
   clear Hz; intro hb26 Hz
   try simp only [Q1x, Q2x, Q3x, Q4x, Q5x, Q6x, Q7x, Q8x, Q9x, Q0x, Qax, Qbx] at hb26
   refine wp_cond_true (Hz.ev (x := .tmp 26) rfl) ?_
   refine wp_skip ?_
   refine hK4 _ _ ?_; clear hK4; try clear K4
   refine wp_seq_k (fun K5 hK5 => ?_)
   refine wp_block ?_
   refine wp_region_lit ?_
   refine goCh Hz (.move rfl .nil) ?_
   clear Hz Az; intro Az Hz
   refine wpList_plain rfl (fun K hK => ?_)
   refine e_call Hz Tryz.func18 rfl rfl rfl rfl (rtick_s _ R (tickN A0 j) (nilP p9) _ (tkB_ok (aB_out (A_ok j (by omega))).1).1 (tkB_ok (aB_out (A_ok j (by omega))).1).2 (m20.into [(1, 1), (2, 2), (3, 3), (4, 4), (5, 5), (6, 6), (7, 7), (8, 8)] (by decide) rfl)) ?_
   rintro e w28 ⟨p2, o2, rfl, hm28⟩
   have mx28 := m20.back hm28 [(1, 1), (2, 2), (3, 3), (4, 4), (5, 5), (6, 6), (7, 7), (8, 8), (11, 11), (12, 12)] (by decide); clear hm28 m20
   have m28 : MemOk _ _ [(1, _), (2, _), (3, _), (4, _), (5, _), (6, _), (7, _), (8, _), (11, _), (12, _)] _ := mx28.only [1, 2, 3, 4, 5, 6, 7, 8, 11, 12]; clear mx28
   refine ⟨_, rfl, ?_⟩; clear Hz Az; intro Az Hz
   refine hK _ _ ?_; clear hK K
   refine wpList_nil ?_
   refine hK5 _ _ ?_; clear hK5; try clear K5
   replace Hz : Has 125 [(0, _), (1, _), (2, _), (3, _), (9, _), (10, _)] Az := Hz.only [0, 1, 2, 3, 9, 10]
   refine wp_region_lit ?_
   refine goCh Hz (.move rfl <| .add rfl rfl (r := ((j + 1 : Nat) : Int)) (by rw [IntWalk.i64_in _ (by omega)]; omega) <| .assign rfl <| .nil) ?_
   clear Hz Az; intro Az Hz
   refine wpList_nil ?_
   show ∃ n', n' < _ ∧ _
   exact ⟨(q % 60) - (j + 1), by omega, j + 1, p2, by omega, rfl, Hz.only [0, 1, 2, 3, 9, 10], m28.only [1, 2, 3, 4, 5, 6, 7, 8]⟩
  ·
   clear Hz; intro hb26 Hz
   try simp only [Q1x, Q2x, Q3x, Q4x, Q5x, Q6x, Q7x, Q8x, Q9x, Q0x, Qax, Qbx] at hb26
   obtain rfl : j = q % 60 := by omega
   obtain ⟨a1, a2, a3, a4, a5, a6, a7, a8, a9, a10⟩ := aB_out (A_ok (q % 60) (by omega))
   have hys := a2.ys
   refine wp_cond_false (Hz.ev (x := .tmp 26) rfl) ?_
   refine wp_exit ?_
   refine hK3 _ _ ?_; clear hK3; try clear K3
   refine wp_seq_k (fun K6 hK6 => ?_)
   refine wp_seq_k (fun K7 hK7 => ?_)
   refine wp_region_lit ?_
   refine goCh Hz (.move rfl .nil) ?_
   clear Hz Az; intro Az Hz
   refine wpList_plain rfl (fun K hK => ?_)
   refine e_call Hz Tryz.func30 rfl rfl rfl rfl (rTerm _ R (tickN A0 (q % 60)) (nilP p9) _ (m20.into [(1, 1), (2, 2), (3, 3), (4, 4), (5, 5), (6, 6), (7, 7), (8, 8)] (by decide) rfl)) ?_
   rintro e w36 ⟨rfl, hm36⟩
   have mx36 := m20.back hm36 [(1, 1), (2, 2), (3, 3), (4, 4), (5, 5), (6, 6), (7, 7), (8, 8)] (by decide); clear hm36 m20
   have m36 : MemOk _ _ [(1, _), (2, _), (3, _), (4, _), (5, _), (6, _), (7, _), (8, _)] _ := mx36.only [1, 2, 3, 4, 5, 6, 7, 8]; clear mx36
   refine ⟨_, rfl, ?_⟩; clear Hz Az; intro Az Hz
   refine hK _ _ ?_; clear hK K
   refine goCh Hz (.neq rfl rfl <| .move rfl <| .nil) ?_
   clear Hz Az; intro Az Hz
   refine bool_cases Hz (t := 34) rfl ?_ ?_
   · intro hb _; exact absurd hb (fun h9 => of_decide_eq_true h9 a3)
   clear Hz; intro _ Hz
   refine goCh Hz (.moveZ rfl .nil) ?_
   clear Hz Az; intro Az Hz
   refine st_ge Hz rfl rfl rfl rfl (fun K hK => ?_)
   refine e_call Hz Tryz.func29 rfl rfl rfl rfl (rRole _ R (tickN A0 (q % 60)) (nilP p9) _ (m36.into [(1, 1), (2, 2), (3, 3), (4, 4), (5, 5), (6, 6), (7, 7), (8, 8)] (by decide) rfl)) ?_
   rintro e w42 ⟨rfl, hm42⟩
   have mx42 := m36.back hm42 [(1, 1), (2, 2), (3, 3), (4, 4), (5, 5), (6, 6), (7, 7), (8, 8)] (by decide); clear hm42 m36
   have m42 : MemOk _ _ [(1, _), (2, _), (3, _), (4, _), (5, _), (6, _), (7, _), (8, _)] _ := mx42.only [1, 2, 3, 4, 5, 6, 7, 8]; clear mx42
   refine ⟨_, rfl, ?_⟩; clear Hz Az; intro Az Hz
   refine hK _ _ ?_; clear hK K
   refine goCh Hz (.eqlZ rfl rfl <| .pickF rfl rfl <| .move rfl <| .nil) ?_
   clear Hz Az; intro Az Hz
   refine bool_cases Hz (t := 39) rfl ?_ ?_
   · intro hb _; exact absurd hb (fun h9 => a4 (of_decide_eq_true h9))
   clear Hz; intro _ Hz
   refine goCh Hz (.moveZ rfl .nil) ?_
   clear Hz Az; intro Az Hz
   refine st_ge Hz rfl rfl rfl rfl (fun K hK => ?_)
   refine e_call Hz Tryz.func29 rfl rfl rfl rfl (rRole _ R (tickN A0 (q % 60)) (nilP p9) _ (m42.into [(1, 1), (2, 2), (3, 3), (4, 4), (5, 5), (6, 6), (7, 7), (8, 8)] (by decide) rfl)) ?_
   rintro e w49 ⟨rfl, hm49⟩
   have mx49 := m42.back hm49 [(1, 1), (2, 2), (3, 3), (4, 4), (5, 5), (6, 6), (7, 7), (8, 8)] (by decide); clear hm49 m42
   have m49 : MemOk _ _ [(1, _), (2, _), (3, _), (4, _), (5, _), (6, _), (7, _), (8, _)] _ := mx49.only [1, 2, 3, 4, 5, 6, 7, 8]; clear mx49
   refine ⟨_, rfl, ?_⟩; clear Hz Az; intro Az Hz
   refine hK _ _ ?_; clear hK K
   refine goCh Hz (.eqlZ rfl rfl <| .pickF rfl rfl <| .nil) ?_
   clear Hz Az; intro Az Hz
   refine wpList_nil ?_
   refine hK7 _ _ ?_; clear hK7; try clear K7
   refine bool_cases Hz (t := 43) rfl ?_ ?_
   · intro hb _; exact absurd hb (fun h9 => a5 (of_decide_eq_true h9))
   clear Hz; intro _ Hz
   refine wp_cond_false (Hz.ev (x := .tmp 43) rfl) ?_
   refine wp_skip ?_
   refine hK6 _ _ ?_; clear hK6; try clear K6
   replace Hz : Has 125 [(0, _), (1, _), (2, _), (3, _), (9, _), (10, _)] Az := Hz.only [0, 1, 2, 3, 9, 10]
   refine regS Hz (.move rfl <| .rem rfl rfl (r := ((u % 5 : Nat) : Int)) (by omega) (by rw [Int.tmod_eq_emod_of_nonneg (by omega)]; omega) <| .conv rfl Tryz.underlying5 Tryz.underlying3 (r := ((u % 5 : Nat) : Int)) (IntWalk.i64_in _ (by omega)) <| .add rfl rfl (r := (((u % 5 : Nat) : Int) + 1)) (IntWalk.i64_in _ (by omega)) <| .assign rfl <| .nil) ?_
   clear Hz Az; intro Az Hz
   refine wp_seq_k (fun K8 hK8 => ?_)
   refine wp_region_lit ?_
   refine goCh Hz (.move rfl <| .move rfl <| .buildG rfl zc55ra ps55ra rfl <| .nil) ?_
   clear Hz Az; intro Az Hz
   refine wpList_plain rfl (fun K hK => ?_)
   refine e_call Hz Tryz.func23 rfl rfl rfl rfl (rRecvAppend_s _ R (tickN A0 (q % 60)) (nilP p9) 1 0 1 (((u % 5 : Nat) : Int) + 1) 0 0 0 false _ a2 a7.symm a6.symm (by rw [a6]; decide) (by rw [a8]; decide) (by rw [a3]; omega) (by omega) (by omega) a9 (m49.into [(1, 1), (2, 2), (3, 3), (4, 4), (5, 5), (6, 6), (7, 7), (8, 8)] (by decide) rfl)) ?_
   rintro e w66 ⟨p4, o4, rfl, hm66⟩
   have mx66 := m49.back hm66 [(1, 1), (2, 2), (3, 3), (4, 4), (5, 5), (6, 6), (7, 7), (8, 8), (11, 11), (12, 12)] (by decide); clear hm66 m49
   have m66 : MemOk _ _ [(1, _), (2, _), (3, _), (4, _), (5, _), (6, _), (7, _), (8, _), (11, _), (12, _)] _ := mx66.only [1, 2, 3, 4, 5, 6, 7, 8, 11, 12]; clear mx66
   refine ⟨_, rfl, ?_⟩; clear Hz Az; intro Az Hz
   refine hK _ _ ?_; clear hK K
   rw [a10 (((u % 5 : Nat) : Int) + 1)] at m66
   refine wpList_nil ?_
   refine hK8 _ _ ?_; clear hK8; try clear K8
   refine wp_seq_k (fun K9 hK9 => ?_)
   replace Hz : Has 125 [(0, _), (1, _), (2, _), (3, _), (9, _), (10, _), (11, _)] Az := Hz.only [0, 1, 2, 3, 9, 10, 11]
   refine wp_seq_k (fun K10 hK10 => ?_)
   refine wp_region_lit ?_
   refine goCh Hz (.move rfl .nil) ?_
   clear Hz Az; intro Az Hz
   refine wpList_plain rfl (fun K hK => ?_)
   refine e_call Hz Tryz.func30 rfl rfl rfl rfl (rTerm _ R (Af (((u % 5 : Nat) : Int) + 1) (tickN A0 (q % 60)).ys ((0 : Nat) : Int)) (nilP p4) _ (m66.into [(1, 1), (2, 2), (3, 3), (4, 4), (5, 5), (6, 6), (7, 7), (8, 8)] (by decide) rfl)) ?_
   rintro e w71 ⟨rfl, hm71⟩
   have mx71 := m66.back hm71 [(1, 1), (2, 2), (3, 3), (4, 4), (5, 5), (6, 6), (7, 7), (8, 8)] (by decide); clear hm71 m66
   have m71 : MemOk _ _ [(1, _), (2, _), (3, _), (4, _), (5, _), (6, _), (7, _), (8, _), (11, _), (12, _)] _ := mx71.only [1, 2, 3, 4, 5, 6, 7, 8, 11, 12]; clear mx71
   refine ⟨_, rfl, ?_⟩; clear Hz Az; intro Az Hz
   refine hK _ _ ?_; clear hK K
   refine goCh Hz (.move rfl <| .neq rfl rfl <| .move rfl <| .nil) ?_
   clear Hz Az; intro Az Hz
   refine bool_cases Hz (t := 56) rfl ?_ ?_
   · intro hb _; exact absurd hb (fun h9 => of_decide_eq_true h9 rfl)
   clear Hz; intro _ Hz
   refine goCh Hz (.moveZ rfl .nil) ?_
   clear Hz Az; intro Az Hz
   refine st_ge Hz rfl rfl rfl rfl (fun K hK => ?_)
   refine e_call Hz Tryz.func33 rfl rfl rfl rfl (rLead _ R (Af (((u % 5 : Nat) : Int) + 1) (tickN A0 (q % 60)).ys ((0 : Nat) : Int)) (nilP p4) _ (m71.into [(1, 1), (2, 2), (3, 3), (4, 4), (5, 5), (6, 6), (7, 7), (8, 8)] (by decide) rfl)) ?_
   rintro e w78 ⟨rfl, hm78⟩
   have mx78 := m71.back hm78 [(1, 1), (2, 2), (3, 3), (4, 4), (5, 5), (6, 6), (7, 7), (8, 8)] (by decide); clear hm78 m71
   have m78 : MemOk _ _ [(1, _), (2, _), (3, _), (4, _), (5, _), (6, _), (7, _), (8, _), (11, _), (12, _)] _ := mx78.only [1, 2, 3, 4, 5, 6, 7, 8, 11, 12]; clear mx78
   refine ⟨_, rfl, ?_⟩; clear Hz Az; intro Az Hz
   refine hK _ _ ?_; clear hK K
   refine goCh Hz (.neqZ rfl rfl <| .pickF rfl rfl <| .move rfl <| .nil) ?_
   clear Hz Az; intro Az Hz
   refine bool_cases Hz (t := 61) rfl ?_ ?_
   · intro hb _; exact absurd hb (fun h9 => of_decide_eq_true h9 rfl)
   clear Hz; intro _ Hz
   refine goCh Hz (.moveZ rfl .nil) ?_
   clear Hz Az; intro Az Hz
   refine st_ge Hz rfl rfl rfl rfl (fun K hK => ?_)
   refine e_call Hz Tryz.func29 rfl rfl rfl rfl (rRole _ R (Af (((u % 5 : Nat) : Int) + 1) (tickN A0 (q % 60)).ys ((0 : Nat) : Int)) (nilP p4) _ (m78.into [(1, 1), (2, 2), (3, 3), (4, 4), (5, 5), (6, 6), (7, 7), (8, 8)] (by decide) rfl)) ?_
   rintro e w85 ⟨rfl, hm85⟩
   have mx85 := m78.back hm85 [(1, 1), (2, 2), (3, 3), (4, 4), (5, 5), (6, 6), (7, 7), (8, 8)] (by decide); clear hm85 m78
   have m85 : MemOk _ _ [(1, _), (2, _), (3, _), (4, _), (5, _), (6, _), (7, _), (8, _), (11, _), (12, _)] _ := mx85.only [1, 2, 3, 4, 5, 6, 7, 8, 11, 12]; clear mx85
   refine ⟨_, rfl, ?_⟩; clear Hz Az; intro Az Hz
   refine hK _ _ ?_; clear hK K
   refine goCh Hz (.neqZ rfl rfl <| .pickF rfl rfl <| .nil) ?_
   clear Hz Az; intro Az Hz
   refine wpList_nil ?_
   refine hK10 _ _ ?_; clear hK10; try clear K10
   refine bool_cases Hz (t := 65) rfl ?_ ?_
   · intro hb _; exact absurd hb (fun h9 => of_decide_eq_true h9 rfl)
   clear Hz; intro _ Hz
   refine wp_cond_false (Hz.ev (x := .tmp 65) rfl) ?_
   refine wp_skip ?_
   refine hK9 _ _ ?_; clear hK9; try clear K9
   replace Hz : Has 125 [(0, _), (1, _), (2, _), (3, _), (9, _), (10, _), (11, _)] Az := Hz.only [0, 1, 2, 3, 9, 10, 11]
   refine regS Hz (.move rfl <| .rem rfl rfl (r := ((v % 9 : Nat) : Int)) (by omega) (by rw [Int.tmod_eq_emod_of_nonneg (by omega)]; omega) <| .conv rfl Tryz.underlying5 Tryz.underlying3 (r := ((v % 9 : Nat) : Int)) (IntWalk.i64_in _ (by omega)) <| .assign rfl <| .nil) ?_
   clear Hz Az; intro Az Hz
   refine wp_seq_k (fun K11 hK11 => ?_)
   refine regS Hz (.assign rfl <| .nil) ?_
   clear Hz Az; intro Az Hz
   refine wp_block ?_
   refine wp_loop_ghost (fun g a w => ∃ (j : Nat) (p9 : RP), j ≤ (v % 9) ∧ g = (v % 9) - j ∧ Has 125 [(3, .int .u8 (x : Nat)), (9, .pointer (some ⟨R, 0, none⟩)), (11, .int .i64 (((u % 5 : Nat) : Int) + 1)), (12, .int .i64 ((v % 9 : Nat) : Int)), (13, .int .i64 ((j : Nat)))] a ∧ MemOk (cx (fun _ => False) w0) w0 (rfM R (Af (((u % 5 : Nat) : Int) + 1) (tickN A0 (q % 60)).ys ((j : Nat) : Int)) (nilP p9)) w) ((v % 9)) ?_ ?_
   · exact ⟨0, p4, Nat.zero_le _, rfl, Hz.only [3, 9, 11, 12, 13], m85.only [1, 2, 3, 4, 5, 6, 7, 8]⟩
   ·
    clear Hz m85
    rintro g Az w96 ⟨j, p9, hjl, hg, Hz, m96⟩
    refine wp_seq_k (fun K12 hK12 => ?_)
    refine regS Hz (.move rfl <| .move rfl <| .lss rfl rfl <| .nil) ?_
    clear Hz Az; intro Az Hz
    refine bool_cases Hz (t := 71) rfl ?_ ?_
    ·
     clear Hz; intro hb100 Hz
     try simp only [Q1x, Q2x, Q3x, Q4x, Q5x, Q6x, Q7x, Q8x, Q9x, Q0x, Qax, Qbx] at hb100
     have hj9 : j < v % 9 := by omega
     refine wp_cond_true (Hz.ev (x := .tmp 71) rfl) ?_
     refine wp_skip ?_
     refine hK12 _ _ ?_; clear hK12; try clear K12
     refine wp_seq_k (fun K13 hK13 => ?_)
     refine wp_block ?_
     refine wp_region_lit ?_
     refine goCh Hz (.move rfl .nil) ?_
     clear Hz Az; intro Az Hz
     refine wpList_plain rfl (fun K hK => ?_)
     refine e_call Hz Tryz.func18 rfl rfl rfl rfl (rtick_s _ R (Af (((u % 5 : Nat) : Int) + 1) (tickN A0 (q % 60)).ys ((j : Nat) : Int)) (nilP p9) _ (Af_ok _ _ j (by omega) hys (by omega)) (fun h9 => absurd (show (0 : Int) = 3 from h9) (by decide)) (m96.into [(1, 1), (2, 2), (3, 3), (4, 4), (5, 5), (6, 6), (7, 7), (8, 8)] (by decide) rfl)) ?_
     rintro e w102 ⟨p2, o2, rfl, hm102⟩
     have mx102 := m96.back hm102 [(1, 1), (2, 2), (3, 3), (4, 4), (5, 5), (6, 6), (7, 7), (8, 8), (11, 11), (12, 12)] (by decide); clear hm102 m96
     have m102 : MemOk _ _ [(1, _), (2, _), (3, _), (4, _), (5, _), (6, _), (7, _), (8, _), (11, _), (12, _)] _ := mx102.only [1, 2, 3, 4, 5, 6, 7, 8, 11, 12]; clear mx102
     refine ⟨_, rfl, ?_⟩; clear Hz Az; intro Az Hz
     refine hK _ _ ?_; clear hK K
     rw [Af_tick _ _ j (by omega)] at m102
     refine wpList_nil ?_
     refine hK13 _ _ ?_; clear hK13; try clear K13
     refine wp_region_lit ?_
     refine goCh Hz (.move rfl <| .add rfl rfl (r := ((j + 1 : Nat) : Int)) (by rw [IntWalk.i64_in _ (by omega)]; omega) <| .assign rfl <| .nil) ?_
     clear Hz Az; intro Az Hz
     refine wpList_nil ?_
     show ∃ n', n' < _ ∧ _
     exact ⟨(v % 9) - (j + 1), by omega, j + 1, p2, by omega, rfl, Hz.only [3, 9, 11, 12, 13], m102.only [1, 2, 3, 4, 5, 6, 7, 8]⟩
    ·
     clear Hz; intro hb100 Hz
     try simp only [Q1x, Q2x, Q3x, Q4x, Q5x, Q6x, Q7x, Q8x, Q9x, Q0x, Qax, Qbx] at hb100
     obtain rfl : j = v % 9 := by omega
     refine wp_cond_false (Hz.ev (x := .tmp 71) rfl) ?_
     refine wp_exit ?_
     refine hK11 _ _ ?_; clear hK11; try clear K11
     refine wp_seq_k (fun K14 hK14 => ?_)
     refine wp_region_lit ?_
     refine goCh Hz (.move rfl <| .move rfl <| .add rfl rfl (r := (((u % 5 : Nat) : Int) + 1) + 1) (IntWalk.i64_in _ (by omega)) <| .move rfl <| .conv rfl Tryz.underlying5 Tryz.underlying3 (r := ((x : Nat) : Int)) (IntWalk.i64_in _ (by omega)) <| .move rfl <| .buildG rfl zc55ra ps55ra rfl <| .nil) ?_
     clear Hz Az; intro Az Hz
     refine wpList_plain rfl (fun K hK => ?_)
     refine e_call Hz Tryz.func23 rfl rfl rfl rfl (rRecvPreVote_s _ R (Af (((u % 5 : Nat) : Int) + 1) (tickN A0 (q % 60)).ys (((v % 9) : Nat) : Int)) (nilP p9) 1 2 1 ((((u % 5 : Nat) : Int) + 1) + 1) ((x : Nat) : Int) (((u % 5 : Nat) : Int) + 1) 0 false _ (Af_ok _ _ (v % 9) (by omega) hys (by omega)) rfl rfl (by show (2 : Int) ≠ 1; decide) (by show (0 : Int) ≠ 3; decide) (by show (0 : Int) ≤ 0; decide) (by show (((v % 9 : Nat) : Nat) : Int) < 10; omega) (m96.into [(1, 1), (2, 2), (3, 3), (4, 4), (5, 5), (6, 6), (7, 7), (8, 8)] (by decide) rfl)) ?_
     rintro e w121 ⟨p5, ⟨om, oq, ocm, ocq⟩, rfl, hm121⟩
     have mx121 := m96.back hm121 [(1, 1), (2, 2), (3, 3), (4, 4), (5, 5), (6, 6), (7, 7), (8, 8), (11, 11), (12, 12)] (by decide); clear hm121 m96
     have m121 : MemOk _ _ [(1, _), (2, _), (3, _), (4, _), (5, _), (6, _), (7, _), (8, _), (11, _), (12, _)] _ := mx121.only [1, 2, 3, 4, 5, 6, 7, 8, 11, 12]; clear mx121
     refine ⟨_, rfl, ?_⟩; clear Hz Az; intro Az Hz
     refine hK _ _ ?_; clear hK K
     have m123 := m121.freezeS 11 rfl (by intro b hb; cases hb); clear m121
     refine wpList_plain rfl (fun K hK => ?_)
     refine e_alloc Hz m123 200 zc46ra rfl ?_
     clear Hz Az m123; intro g124 Az w125 Hz m125 hB125 hg125
     clear hB125 hg125
     refine hK _ _ ?_; clear hK K
     refine wpList_plain rfl (fun K hK => ?_)
     refine e_storeW Hz m125 200 rfl rfl rfl rfl rfl sz46ra ?_
     clear m125; intro w126 m126 hB126
     clear hB126
     refine hK _ _ ?_; clear hK K
     refine wpList_nil ?_
     refine hK14 _ _ ?_; clear hK14; try clear K14
     replace Hz : Has 125 [(3, _), (9, _), (11, _), (12, _), (13, _), (14, _)] Az := Hz.only [3, 9, 11, 12, 13, 14]
     refine wp_seq_k (fun K15 hK15 => ?_)
     refine wp_region_lit ?_
     refine goCh Hz (.fieldAddr (off := 0) rfl Tryz.underlying46 rfl (s := 0) (by kernel_rfl) rfl <| .loadB1 m126 (i := 200) rfl rfl rfl Tryz.underlying43 rfl <| .len rfl Tryz.underlying43 <| .eql rfl rfl <| .move rfl <| .nil) ?_
     clear Hz Az; intro Az Hz
     refine bool_cases Hz (t := 88) rfl ?_ ?_
     rotate_left
     · intro hb _; exact absurd hb (fun h9 => of_decide_eq_false h9 rfl)
     clear Hz; intro _ Hz
     refine goCh Hz (.fieldAddrZ (off := 0) rfl Tryz.underlying46 rfl (s := 0) (by kernel_rfl) rfl <| .loadB1Z m126 (i := 200) rfl rfl rfl Tryz.underlying43 rfl <| .nil) ?_
     clear Hz Az; intro Az Hz
     obtain ⟨b141, o141, vs141, hp141, hR141, ho141, m141⟩ := m126.openR (i := 11) rfl (0) (r := [.v (.int .i64 2), .v (.int .i64 1), .v (.int .i64 1), .v (.int .i64 2), .v (.int .i64 (((u % 5 : Nat) : Int) + 1)), .v (.int .i64 0), .v (.int .i64 0), .v (.int .i64 0), .v (.bool false), .l 4 (([] : List En).map entD), .v (.int .i64 0), .v (.int .i64 0), .ns .i64 [], .ns .u8 [], .ns .u8 [], .v (.int .i64 0), .v (.int .i64 0), .v (.int .i64 0), .v (.int .i64 0)]) rfl 201 rfl
     cases hp141; clear m126 ho141
     rcases hR141 with _ | ⟨hd141_0, _ | ⟨hd141_1, _ | ⟨hd141_2, _ | ⟨hd141_3, _ | ⟨hd141_4, _ | ⟨hd141_5, _ | ⟨hd141_6, _ | ⟨hd141_7, _ | ⟨hd141_8, _ | ⟨hd141_9, _ | ⟨hd141_10, _ | ⟨hd141_11, _ | ⟨hd141_12, _ | ⟨hd141_13, _ | ⟨hd141_14, _ | ⟨hd141_15, _ | ⟨hd141_16, _ | ⟨hd141_17, _ | ⟨hd141_18, _ | _⟩⟩⟩⟩⟩⟩⟩⟩⟩⟩⟩⟩⟩⟩⟩⟩⟩⟩⟩
     obtain rfl := hd141_0.v_out
     clear hd141_0
     obtain rfl := hd141_1.v_out
     clear hd141_1
     obtain rfl := hd141_2.v_out
     clear hd141_2
     obtain rfl := hd141_3.v_out
     clear hd141_3
     obtain rfl := hd141_4.v_out
     clear hd141_4
     obtain rfl := hd141_5.v_out
     clear hd141_5
     obtain rfl := hd141_6.v_out
     clear hd141_6
     obtain rfl := hd141_7.v_out
     clear hd141_7
     obtain rfl := hd141_8.v_out
     clear hd141_8
     obtain ⟨p142, c142, hv142, hc142⟩ := hd141_9.l_shape; subst hv142
     have m142 := m141.dat 202 rfl (hd141_9.cast (fun _ h => (free_add rfl h))); clear m141 hd141_9
     obtain rfl := hd141_10.v_out
     clear hd141_10
     obtain rfl := hd141_11.v_out
     clear hd141_11
     obtain ⟨p143, c143, hv143, hc143⟩ := hd141_12.ns_shape; subst hv143
     have m143 := m142.dat 203 rfl (hd141_12.cast (fun _ h => (free_add rfl (free_add rfl h)))); clear m142 hd141_12
     obtain ⟨p144, c144, hv144, hc144⟩ := hd141_13.ns_shape; subst hv144
     have m144 := m143.dat 204 rfl (hd141_13.cast (fun _ h => (free_add rfl (free_add rfl (free_add rfl h))))); clear m143 hd141_13
     obtain ⟨p145, c145, hv145, hc145⟩ := hd141_14.ns_shape; subst hv145
     have m145 := m144.dat 205 rfl (hd141_14.cast (fun _ h => (free_add rfl (free_add rfl (free_add rfl (free_add rfl h)))))); clear m144 hd141_14
     obtain rfl := hd141_15.v_out
     clear hd141_15
     obtain rfl := hd141_16.v_out
     clear hd141_16
     obtain rfl := hd141_17.v_out
     clear hd141_17
     obtain rfl := hd141_18.v_out
     clear hd141_18
     refine goCh Hz (.g rfl rfl rfl rfl (fun _ h_ => y_idx h_ rfl rfl Tryz.underlying43 sz55ra (0) rfl (Nat.zero_lt_succ 0)) <| .fieldAddrQZ 0 rfl Tryz.underlying55 rfl (s := 0) (by kernel_rfl) rfl <| .loadC0Z m145 (i := 201) rfl rfl Tryz.underlying3 rfl <| .eqlZ rfl rfl <| .pickT rfl rfl <| .move rfl <| .nil) ?_
     clear Hz Az; intro Az Hz
     refine bool_cases Hz (t := 96) rfl ?_ ?_
     rotate_left
     · intro hb _; exact absurd hb (fun h9 => of_decide_eq_false h9 rfl)
     clear Hz; intro _ Hz
     refine goCh Hz (.fieldAddrZ (off := 0) rfl Tryz.underlying46 rfl (s := 0) (by kernel_rfl) rfl <| .loadB1Z m145 (i := 200) rfl rfl rfl Tryz.underlying43 rfl <| .nil) ?_
     clear Hz Az; intro Az Hz
     obtain ⟨b155, o155, vs155, hp155, hR155, ho155, m155⟩ := m145.openR (i := 11) rfl (0) (r := [.v (.int .i64 2), .v (.int .i64 1), .v (.int .i64 1), .v (.int .i64 2), .v (.int .i64 (((u % 5 : Nat) : Int) + 1)), .v (.int .i64 0), .v (.int .i64 0), .v (.int .i64 0), .v (.bool false), .l 4 (([] : List En).map entD), .v (.int .i64 0), .v (.int .i64 0), .ns .i64 [], .ns .u8 [], .ns .u8 [], .v (.int .i64 0), .v (.int .i64 0), .v (.int .i64 0), .v (.int .i64 0)]) rfl 206 rfl
     cases hp155; clear m145 ho155
     rcases hR155 with _ | ⟨hd155_0, _ | ⟨hd155_1, _ | ⟨hd155_2, _ | ⟨hd155_3, _ | ⟨hd155_4, _ | ⟨hd155_5, _ | ⟨hd155_6, _ | ⟨hd155_7, _ | ⟨hd155_8, _ | ⟨hd155_9, _ | ⟨hd155_10, _ | ⟨hd155_11, _ | ⟨hd155_12, _ | ⟨hd155_13, _ | ⟨hd155_14, _ | ⟨hd155_15, _ | ⟨hd155_16, _ | ⟨hd155_17, _ | ⟨hd155_18, _ | _⟩⟩⟩⟩⟩⟩⟩⟩⟩⟩⟩⟩⟩⟩⟩⟩⟩⟩⟩
     obtain rfl := hd155_0.v_out
     clear hd155_0
     obtain rfl := hd155_1.v_out
     clear hd155_1
     obtain rfl := hd155_2.v_out
     clear hd155_2
     obtain rfl := hd155_3.v_out
     clear hd155_3
     obtain rfl := hd155_4.v_out
     clear hd155_4
     obtain rfl := hd155_5.v_out
     clear hd155_5
     obtain rfl := hd155_6.v_out
     clear hd155_6
     obtain rfl := hd155_7.v_out
     clear hd155_7
     obtain rfl := hd155_8.v_out
     clear hd155_8
     obtain ⟨p156, c156, hv156, hc156⟩ := hd155_9.l_shape; subst hv156
     have m156 := m155.dat 207 rfl (hd155_9.cast (fun _ h => (free_add rfl h))); clear m155 hd155_9
     obtain rfl := hd155_10.v_out
     clear hd155_10
     obtain rfl := hd155_11.v_out
     clear hd155_11
     obtain ⟨p157, c157, hv157, hc157⟩ := hd155_12.ns_shape; subst hv157
     have m157 := m156.dat 208 rfl (hd155_12.cast (fun _ h => (free_add rfl (free_add rfl h)))); clear m156 hd155_12
     obtain ⟨p158, c158, hv158, hc158⟩ := hd155_13.ns_shape; subst hv158
     have m158 := m157.dat 209 rfl (hd155_13.cast (fun _ h => (free_add rfl (free_add rfl (free_add rfl h))))); clear m157 hd155_13
     obtain ⟨p159, c159, hv159, hc159⟩ := hd155_14.ns_shape; subst hv159
     have m159 := m158.dat 210 rfl (hd155_14.cast (fun _ h => (free_add rfl (free_add rfl (free_add rfl (free_add rfl h)))))); clear m158 hd155_14
     obtain rfl := hd155_15.v_out
     clear hd155_15
     obtain rfl := hd155_16.v_out
     clear hd155_16
     obtain rfl := hd155_17.v_out
     clear hd155_17
     obtain rfl := hd155_18.v_out
     clear hd155_18
     refine goCh Hz (.g rfl rfl rfl rfl (fun _ h_ => y_idx h_ rfl rfl Tryz.underlying43 sz55ra (0) rfl (Nat.zero_lt_succ 0)) <| .fieldAddrQZ 8 rfl Tryz.underlying55 rfl (s := 0) (by kernel_rfl) rfl <| .loadC1Z m159 (i := 206) (q := 8) rfl rfl rfl Tryz.underlying4 rfl <| .notZ rfl <| .pickT rfl rfl <| .move rfl <| .nil) ?_
     clear Hz Az; intro Az Hz
     refine bool_cases Hz (t := 104) rfl ?_ ?_
     rotate_left
     · intro hb _; exact absurd hb (by simp)
     clear Hz; intro _ Hz
     refine goCh Hz (.fieldAddrZ (off := 0) rfl Tryz.underlying46 rfl (s := 0) (by kernel_rfl) rfl <| .loadB1Z m159 (i := 200) rfl rfl rfl Tryz.underlying43 rfl <| .nil) ?_
     clear Hz Az; intro Az Hz
     obtain ⟨b169, o169, vs169, hp169, hR169, ho169, m169⟩ := m159.openR (i := 11) rfl (0) (r := [.v (.int .i64 2), .v (.int .i64 1), .v (.int .i64 1), .v (.int .i64 2), .v (.int .i64 (((u % 5 : Nat) : Int) + 1)), .v (.int .i64 0), .v (.int .i64 0), .v (.int .i64 0), .v (.bool false), .l 4 (([] : List En).map entD), .v (.int .i64 0), .v (.int .i64 0), .ns .i64 [], .ns .u8 [], .ns .u8 [], .v (.int .i64 0), .v (.int .i64 0), .v (.int .i64 0), .v (.int .i64 0)]) rfl 211 rfl
     cases hp169; clear m159 ho169
     rcases hR169 with _ | ⟨hd169_0, _ | ⟨hd169_1, _ | ⟨hd169_2, _ | ⟨hd169_3, _ | ⟨hd169_4, _ | ⟨hd169_5, _ | ⟨hd169_6, _ | ⟨hd169_7, _ | ⟨hd169_8, _ | ⟨hd169_9, _ | ⟨hd169_10, _ | ⟨hd169_11, _ | ⟨hd169_12, _ | ⟨hd169_13, _ | ⟨hd169_14, _ | ⟨hd169_15, _ | ⟨hd169_16, _ | ⟨hd169_17, _ | ⟨hd169_18, _ | _⟩⟩⟩⟩⟩⟩⟩⟩⟩⟩⟩⟩⟩⟩⟩⟩⟩⟩⟩
     obtain rfl := hd169_0.v_out
     clear hd169_0
     obtain rfl := hd169_1.v_out
     clear hd169_1
     obtain rfl := hd169_2.v_out
     clear hd169_2
     obtain rfl := hd169_3.v_out
     clear hd169_3
     obtain rfl := hd169_4.v_out
     clear hd169_4
     obtain rfl := hd169_5.v_out
     clear hd169_5
     obtain rfl := hd169_6.v_out
     clear hd169_6
     obtain rfl := hd169_7.v_out
     clear hd169_7
     obtain rfl := hd169_8.v_out
     clear hd169_8
     obtain ⟨p170, c170, hv170, hc170⟩ := hd169_9.l_shape; subst hv170
     have m170 := m169.dat 212 rfl (hd169_9.cast (fun _ h => (free_add rfl h))); clear m169 hd169_9
     obtain rfl := hd169_10.v_out
     clear hd169_10
     obtain rfl := hd169_11.v_out
     clear hd169_11
     obtain ⟨p171, c171, hv171, hc171⟩ := hd169_12.ns_shape; subst hv171
     have m171 := m170.dat 213 rfl (hd169_12.cast (fun _ h => (free_add rfl (free_add rfl h)))); clear m170 hd169_12
     obtain ⟨p172, c172, hv172, hc172⟩ := hd169_13.ns_shape; subst hv172
     have m172 := m171.dat 214 rfl (hd169_13.cast (fun _ h => (free_add rfl (free_add rfl (free_add rfl h))))); clear m171 hd169_13
     obtain ⟨p173, c173, hv173, hc173⟩ := hd169_14.ns_shape; subst hv173
     have m173 := m172.dat 215 rfl (hd169_14.cast (fun _ h => (free_add rfl (free_add rfl (free_add rfl (free_add rfl h)))))); clear m172 hd169_14
     obtain rfl := hd169_15.v_out
     clear hd169_15
     obtain rfl := hd169_16.v_out
     clear hd169_16
     obtain rfl := hd169_17.v_out
     clear hd169_17
     obtain rfl := hd169_18.v_out
     clear hd169_18
     refine goCh Hz (.g rfl rfl rfl rfl (fun _ h_ => y_idx h_ rfl rfl Tryz.underlying43 sz55ra (0) rfl (Nat.zero_lt_succ 0)) <| .fieldAddrQZ 4 rfl Tryz.underlying55 rfl (s := 0) (by kernel_rfl) rfl <| .loadC1Z m173 (i := 211) (q := 4) rfl rfl rfl Tryz.underlying3 rfl <| .moveZ rfl <| .eqlZ rfl rfl <| .pickT rfl rfl <| .move rfl <| .nil) ?_
     clear Hz Az; intro Az Hz
     refine bool_cases Hz (t := 113) rfl ?_ ?_
     rotate_left
     · intro hb _; exact absurd hb (fun h9 => of_decide_eq_false h9 rfl)
     clear Hz; intro _ Hz
     refine goCh Hz (.fieldAddrZ (off := 1) rfl Tryz.underlying46 rfl (s := 0) (by kernel_rfl) rfl <| .loadB1Z m173 (i := 200) rfl rfl rfl Tryz.underlying44 rfl <| .lenZ rfl Tryz.underlying44 <| .eqlZ rfl rfl <| .pickT rfl rfl <| .move rfl <| .nil) ?_
     clear Hz Az; intro Az Hz
     refine bool_cases Hz (t := 119) rfl ?_ ?_
     rotate_left
     · intro hb _; exact absurd hb (fun h9 => of_decide_eq_false h9 rfl)
     clear Hz; intro _ Hz
     refine goCh Hz (.moveZ rfl .nil) ?_
     clear Hz Az; intro Az Hz
     refine st_ge Hz rfl rfl rfl rfl (fun K hK => ?_)
     refine e_call Hz Tryz.func30 rfl rfl rfl rfl (rTerm _ R (clrS (replyS (Af (((u % 5 : Nat) : Int) + 1) (tickN A0 (q % 60)).ys (((v % 9) : Nat) : Int)) 2 2 false 0)) (nilP p5) _ (m173.into [(1, 1), (2, 2), (3, 3), (4, 4), (5, 5), (6, 6), (7, 7), (8, 8)] (by decide) rfl)) ?_
     rintro e w190 ⟨rfl, hm190⟩
     have mx190 := m173.back hm190 [(1, 1), (2, 2), (3, 3), (4, 4), (5, 5), (6, 6), (7, 7), (8, 8)] (by decide); clear hm190 m173
     have m190 : MemOk _ _ [(1, _), (2, _), (3, _), (4, _), (5, _), (6, _), (7, _), (8, _), (11, _), (12, _), (200, _), (201, _), (202, _), (203, _), (204, _), (205, _), (206, _), (207, _), (208, _), (209, _), (210, _), (211, _), (212, _), (213, _), (214, _), (215, _)] _ := mx190.only [1, 2, 3, 4, 5, 6, 7, 8, 11, 12, 200, 201, 202, 203, 204, 205, 206, 207, 208, 209, 210, 211, 212, 213, 214, 215]; clear mx190
     refine ⟨_, rfl, ?_⟩; clear Hz Az; intro Az Hz
     refine hK _ _ ?_; clear hK K
     refine goCh Hz (.moveZ rfl <| .eqlZ rfl rfl <| .pickT rfl rfl <| .assign rfl <| .nil) ?_
     clear Hz Az; intro Az Hz
     refine wpList_nil ?_
     refine hK15 _ _ ?_; clear hK15; try clear K15
     refine wp_ret ?_
     try dsimp only [Exit.then, Exit.inBlock]
     refine (ret1 (fn := Tryz.f8) Hz rfl rfl ?_)
     exact ⟨congrArg (fun b => Ending.returned (.bool b)) (decide_eq_true rfl), m190.below⟩
end Go.Proofs.YtndnnlbdnjndiaaGreat.K
