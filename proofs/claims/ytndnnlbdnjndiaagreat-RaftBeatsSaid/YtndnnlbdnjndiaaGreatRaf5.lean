/- RaftBeats' walk. -/
import Derived.Test.YtndnnlbdnjndiaaGreatRafB
namespace Go.Proofs.YtndnnlbdnjndiaaGreat.K
open Go.ChangeShapes Go.WideShapes Go.ChangeAt Go.RowKit
set_option linter.unusedVariables false
set_option linter.unusedSimpArgs false

theorem fl25be : flatS Tryz.prog 25 [.int .i64 0, .int .i64 0] = true := by kernel_rfl
theorem fl29be : flatS Tryz.prog 29 [.int .i64 0, .int .i64 0, .slice none 0 0, .slice none 0 0] = true := by kernel_rfl
theorem inf3be : (Tryz.prog.info? 3).map (fun i => (i.zero, i.size, i.bytes)) = some (some (.int .i64 0), 1, 8) := by kernel_rfl
theorem ps32be : placesS Tryz.prog 32 = some [(0, 2), (2, 4), (6, 1)] := by kernel_rfl
theorem ps55be : placesS Tryz.prog 55 = some [(0, 1), (1, 1), (2, 1), (3, 1), (4, 1), (5, 1), (6, 1), (7, 1), (8, 1), (9, 1), (10, 4), (14, 1), (15, 1), (16, 1), (17, 1), (18, 1)] := by kernel_rfl
theorem sz46be : (Tryz.prog.info? 46).map (·.size) = some 3 := by kernel_rfl
theorem sz55be : (Tryz.prog.info? 55).map (·.size) = some 19 := by kernel_rfl
theorem zc25be : ((Tryz.prog.info? 25).bind (·.zero)).map (·.cells.toList) = some [.int .i64 0, .int .i64 0] := by kernel_rfl
theorem zc29be : ((Tryz.prog.info? 29).bind (·.zero)).map (·.cells.toList) = some [.int .i64 0, .int .i64 0, .slice none 0 0, .slice none 0 0] := by kernel_rfl
theorem zc32be : ((Tryz.prog.info? 32).bind (·.zero)).map (·.cells.toList) = some [.int .i64 0, .int .i64 0, .int .i64 0, .int .i64 0, .slice none 0 0, .slice none 0 0, .slice none 0 0] := by kernel_rfl
theorem zc46be : ((Tryz.prog.info? 46).bind (·.zero)).map (·.cells.toList) = some [.slice none 0 0, .slice none 0 0, .bool false] := by kernel_rfl
theorem zc55be : ((Tryz.prog.info? 55).bind (·.zero)).map (·.cells.toList) = some [.int .i64 0, .int .i64 0, .int .i64 0, .int .i64 0, .int .i64 0, .int .i64 0, .int .i64 0, .int .i64 0, .bool false, .slice none 0 0, .int .i64 0, .int .i64 0, .slice none 0 0, .slice none 0 0, .slice none 0 0, .int .i64 0, .int .i64 0, .int .i64 0, .int .i64 0] := by kernel_rfl

set_option maxRecDepth 100000
set_option maxHeartbeats 4000000
theorem beats_walk (x0 : Int) (q : Nat) (w0 : World) (h0 : 0 ≤ x0 ∧ x0 ≤ 255) (hq : q ≤ 255) :
   Calls Tryz.prog 9 #[.int .u8 x0, .int .u8 (q : Int)] w0 fun e w' => e = .returned (.bool true) ∧ Below w0.heap.size w0 w' := by
 refine enter (fn := Tryz.f9) Tryz.func9 rfl Tryz.ntmps9 rfl (fun Az Hz => ?_)
 simp only [List.zipIdx_cons, List.zipIdx_nil, List.map_cons, List.map_nil, Nat.reduceAdd, Nat.zero_add] at Hz
 have m0 := MemOk.start (fun _ => False) w0
 obtain ⟨k, hk⟩ : ∃ k : Nat, (k : Int) = x0 % 4 + 2 := ⟨(x0 % 4 + 2).toNat, by omega⟩
 refine regS Hz (.assign rfl <| .nil) ?_
 clear Hz Az; intro Az Hz
 refine wp_seq_k (fun K0 hK0 => ?_)
 refine wp_seq_k (fun K1 hK1 => ?_)
 refine wp_region_lit ?_
 refine wpList_plain rfl (fun K hK => ?_)
 refine e_call Hz Tryz.func10 rfl rfl rfl rfl (rknown_any _) ?_
 rintro e w2 ⟨rfl, hb2⟩
 have m3 := m0.later hb2
 clear m0
 clear hb2
 refine ⟨_, rfl, ?_⟩; clear Hz Az; intro Az Hz
 refine hK _ _ ?_; clear hK K
 refine goCh Hz (.not rfl .nil) ?_
 clear Hz Az; intro Az Hz
 refine wpList_nil ?_
 refine hK1 _ _ ?_; clear hK1; try clear K1
 refine wp_cond_false (Hz.ev (x := .tmp 17) rfl) ?_
 refine wp_skip ?_
 refine hK0 _ _ ?_; clear hK0; try clear K0
 refine regS Hz (.move rfl <| .rem rfl rfl (r := x0 % 4) (by omega) (Int.tmod_eq_emod_of_nonneg (by omega)) <| .conv rfl Tryz.underlying5 Tryz.underlying3 (r := x0 % 4) (IntWalk.i64_in _ (by omega)) <| .add rfl rfl (r := (k : Int)) (by rw [IntWalk.i64_in _ (by omega)]; omega) <| .assign rfl <| .nil) ?_
 clear Hz Az; intro Az Hz
 replace Hz : Has 132 [(1, _), (4, _), (5, _)] Az := Hz.only [1, 4, 5]
 refine wp_seq_k (fun K2 hK2 => ?_)
 refine wp_region_lit ?_
 have m13 := m3.nilN 40 3 .i64
 clear m3
 refine goCh Hz (.assign rfl .nil) ?_
 clear Hz Az; intro Az Hz
 refine wpList_nil ?_
 refine hK2 _ _ ?_; clear hK2; try clear K2
 refine wp_seq_k (fun K3 hK3 => ?_)
 refine regS Hz (.assign rfl <| .nil) ?_
 clear Hz Az; intro Az Hz
 refine wp_block ?_
 refine wp_loop_ghost (fun g a w => ∃ (i : Nat) (pu : Option Addr) (cu : Nat), i ≤ k ∧ g = k - i ∧ Has 132 [(5, .int .i64 (k : Nat)), (6, .slice pu (upL i).length cu), (7, .int .i64 (i : Nat)), (1, .int .u8 (q : Nat))] a ∧ MemOk (cx (fun _ => False) w0) w0 [(30, .num (.slice pu (upL i).length cu) 3 .i64 (upL i))] w) (k) ?_ ?_
 · exact ⟨0, none, 0, Nat.zero_le _, rfl, Hz.only [5, 6, 7, 1], m13.ren [(30, 40)] (by decide)⟩
 ·
  clear Hz m13
  rintro g Az w16 ⟨i, pu, cu, hil, hg, Hz, m16⟩
  refine wp_seq_k (fun K4 hK4 => ?_)
  refine regS Hz (.move rfl <| .move rfl <| .lss rfl rfl <| .nil) ?_
  clear Hz Az; intro Az Hz
  refine bool_cases Hz (t := 24) rfl ?_ ?_
  ·
   clear Hz; intro hb20 Hz
   try simp only [Q1x, Q2x, Q3x, Q4x, Q5x, Q6x, Q7x, Q8x, Q9x, Q0x, Qax, Qbx] at hb20
   have hi : i < k := by omega
   refine wp_cond_true (Hz.ev (x := .tmp 24) rfl) ?_
   refine wp_skip ?_
   refine hK4 _ _ ?_; clear hK4; try clear K4
   refine wp_seq_k (fun K5 hK5 => ?_)
   refine wp_block ?_
   refine wp_region_lit ?_
   refine goCh Hz (.move rfl <| .move rfl <| .nil) ?_
   clear Hz Az; intro Az Hz
   refine wpList_plain rfl (fun K hK => ?_)
   refine e_litN Hz m16 100 (k := .i64) rfl rfl Tryz.underlying26 inf3be rfl rfl rfl rfl ?_
   clear Hz Az m16; intro g23 Az w24 Hz m24
   refine hK _ _ ?_; clear hK K
   refine wpList_plain rfl (fun K hK => ?_)
   refine e_appN Hz m24 30 rfl rfl rfl (m24.numsO (i := 100) rfl) Tryz.underlying26 inf3be (by decide) (by rw [upL_len]; simp; omega) rfl ?_
   clear Hz Az m24; intro p25 c25 Az w26 Hz m26
   refine hK _ _ ?_; clear hK K
   refine goCh Hz (.assign rfl .nil) ?_
   clear Hz Az; intro Az Hz
   refine wpList_nil ?_
   refine hK5 _ _ ?_; clear hK5; try clear K5
   replace Hz : Has 132 [(5, _), (6, _), (7, _), (1, _)] Az := Hz.only [5, 6, 7, 1]
   refine wp_region_lit ?_
   refine goCh Hz (.move rfl <| .add rfl rfl (r := ((i + 1 : Nat) : Int)) (by rw [IntWalk.i64_in _ (by omega)]; omega) <| .assign rfl <| .nil) ?_
   clear Hz Az; intro Az Hz
   refine wpList_nil ?_
   show ∃ n', n' < _ ∧ _
   rw [upL_snoc] at Hz m26
   exact ⟨k - (i + 1), by omega, i + 1, _, _, by omega, rfl, Hz.only [5, 6, 7, 1], m26.only [30]⟩
  ·
   clear Hz; intro hb20 Hz
   try simp only [Q1x, Q2x, Q3x, Q4x, Q5x, Q6x, Q7x, Q8x, Q9x, Q0x, Qax, Qbx] at hb20
   obtain rfl : k = i := by omega
   refine wp_cond_false (Hz.ev (x := .tmp 24) rfl) ?_
   refine wp_exit ?_
   refine hK3 _ _ ?_; clear hK3; try clear K3
   refine wp_seq_k (fun K6 hK6 => ?_)
   refine wp_region_lit ?_
   refine goCh Hz (.build rfl zc25be fl25be rfl (by dsimp only [setL, List.set] <;> rfl) <| .move rfl <| .build rfl zc29be fl29be rfl (by dsimp only [setL, List.set] <;> rfl) <| .buildG rfl zc32be ps32be rfl <| .nil) ?_
   clear Hz Az; intro Az Hz
   have m40 := m16.freezeN 30 rfl; clear m16
   have m41 := m40.dat 100 rfl (Rd.nilN _ _ .u8 none); clear m40
   have m42 := m41.dat 101 rfl (Rd.nil4 _ _); clear m41
   refine wpList_plain rfl (fun K hK => ?_)
   refine e_call Hz Tryz.func11 rfl rfl rfl rfl (rNew_s _ 0 2 0 (-1) 0 0 (upL k) [] [] _ _ _ _ _ _ _ _ (by decide) (by rw [upL_len]; omega) (by decide) (by decide) (by intro e he; cases he) (m42.into [(5, 30), (6, 100), (7, 101)] (by decide) rfl)) ?_
   rintro e w43 ⟨R, p1, rfl, hm43⟩
   have mx43 := m42.back hm43 [(1, 1), (2, 2), (3, 3), (4, 4), (5, 5), (6, 6), (7, 7), (8, 8)] (by decide); clear hm43 m42
   have m43 : MemOk _ _ [(1, _), (2, _), (3, _), (4, _), (5, _), (6, _), (7, _), (8, _)] _ := mx43.only [1, 2, 3, 4, 5, 6, 7, 8]; clear mx43
   refine ⟨_, rfl, ?_⟩; clear Hz Az; intro Az Hz
   refine hK _ _ ?_; clear hK K
   refine goCh Hz (.assign rfl .nil) ?_
   clear Hz Az; intro Az Hz
   refine wpList_nil ?_
   refine hK6 _ _ ?_; clear hK6; try clear K6
   refine wp_seq_k (fun K7 hK7 => ?_)
   replace Hz : Has 132 [(5, _), (6, _), (7, _), (1, _), (8, _)] Az := Hz.only [5, 6, 7, 1, 8]
   refine regS Hz (.assign rfl <| .nil) ?_
   clear Hz Az; intro Az Hz
   refine wp_block ?_
   refine wp_loop_ghost (fun g a w => ∃ (j : Nat) (p9 : RP), j ≤ 10 ∧ g = 10 - j ∧ Has 132 [(1, .int .u8 (q : Nat)), (5, .int .i64 (k : Nat)), (8, .pointer (some ⟨R, 0, none⟩)), (9, .int .i64 ((j : Nat)))] a ∧ MemOk (cx (fun _ => False) w0) w0 (rfM R (tickN (B0 2 k) j) (nilP p9)) w) (10) ?_ ?_
   · exact ⟨0, p1, Nat.zero_le _, rfl, Hz.only [1, 5, 8, 9], m43.only [1, 2, 3, 4, 5, 6, 7, 8]⟩
   ·
    clear Hz m43
    rintro g Az w48 ⟨j, p9, hjl, hg, Hz, m48⟩
    refine wp_seq_k (fun K8 hK8 => ?_)
    refine regS Hz (.move rfl <| .lss rfl rfl <| .nil) ?_
    clear Hz Az; intro Az Hz
    refine bool_cases Hz (t := 37) rfl ?_ ?_
    ·
     clear Hz; intro hb51 Hz
     try simp only [Q1x, Q2x, Q3x, Q4x, Q5x, Q6x, Q7x, Q8x, Q9x, Q0x, Qax, Qbx] at hb51
     have hj : j < 10 := by omega
     refine wp_cond_true (Hz.ev (x := .tmp 37) rfl) ?_
     refine wp_skip ?_
     refine hK8 _ _ ?_; clear hK8; try clear K8
     refine wp_seq_k (fun K9 hK9 => ?_)
     refine wp_block ?_
     refine wp_region_lit ?_
     refine goCh Hz (.move rfl .nil) ?_
     clear Hz Az; intro Az Hz
     refine wpList_plain rfl (fun K hK => ?_)
     refine e_call Hz Tryz.func18 rfl rfl rfl rfl (rtick_s _ R (tickN (B0 2 k) j) (nilP p9) _ (tkB_ok (B0_ok2 k (by omega) (by omega) j hj)).1 (tkB_ok (B0_ok2 k (by omega) (by omega) j hj)).2 (m48.into [(1, 1), (2, 2), (3, 3), (4, 4), (5, 5), (6, 6), (7, 7), (8, 8)] (by decide) rfl)) ?_
     rintro e w53 ⟨p2, o2, rfl, hm53⟩
     have mx53 := m48.back hm53 [(1, 1), (2, 2), (3, 3), (4, 4), (5, 5), (6, 6), (7, 7), (8, 8), (11, 11), (12, 12)] (by decide); clear hm53 m48
     have m53 : MemOk _ _ [(1, _), (2, _), (3, _), (4, _), (5, _), (6, _), (7, _), (8, _), (11, _), (12, _)] _ := mx53.only [1, 2, 3, 4, 5, 6, 7, 8, 11, 12]; clear mx53
     refine ⟨_, rfl, ?_⟩; clear Hz Az; intro Az Hz
     refine hK _ _ ?_; clear hK K
     refine wpList_nil ?_
     refine hK9 _ _ ?_; clear hK9; try clear K9
     refine wp_region_lit ?_
     refine goCh Hz (.move rfl <| .add rfl rfl (r := ((j + 1 : Nat) : Int)) (by rw [IntWalk.i64_in _ (by omega)]; omega) <| .assign rfl <| .nil) ?_
     clear Hz Az; intro Az Hz
     refine wpList_nil ?_
     show ∃ n', n' < _ ∧ _
     exact ⟨10 - (j + 1), by omega, j + 1, p2, by omega, rfl, Hz.only [1, 5, 8, 9], m53.only [1, 2, 3, 4, 5, 6, 7, 8]⟩
    ·
     clear Hz; intro hb51 Hz
     try simp only [Q1x, Q2x, Q3x, Q4x, Q5x, Q6x, Q7x, Q8x, Q9x, Q0x, Qax, Qbx] at hb51
     obtain rfl : j = 10 := by omega
     refine wp_cond_false (Hz.ev (x := .tmp 37) rfl) ?_
     refine wp_exit ?_
     refine hK7 _ _ ?_; clear hK7; try clear K7
     refine wp_seq_k (fun K10 hK10 => ?_)
     refine regS Hz (.assign rfl <| .nil) ?_
     clear Hz Az; intro Az Hz
     refine wp_block ?_
     refine wp_loop_ghost (fun g a w => ∃ (j : Nat) (p9 : RP), j ≤ (k - 1) ∧ g = (k - 1) - j ∧ Has 132 [(1, .int .u8 (q : Nat)), (5, .int .i64 (k : Nat)), (8, .pointer (some ⟨R, 0, none⟩)), (10, .int .i64 (((j : Nat) : Int) + 1))] a ∧ MemOk (cx (fun _ => False) w0) w0 (rfM R (preN (B1 2 k) j) (nilP p9)) w) ((k - 1)) ?_ ?_
     · exact ⟨0, p9, Nat.zero_le _, rfl, Hz.only [1, 5, 8, 10], m48.only [1, 2, 3, 4, 5, 6, 7, 8]⟩
     ·
      clear Hz m48
      rintro g Az w59 ⟨j, p9, hjl, hg, Hz, m59⟩
      refine wp_seq_k (fun K11 hK11 => ?_)
      refine regS Hz (.move rfl <| .move rfl <| .lss rfl rfl <| .nil) ?_
      clear Hz Az; intro Az Hz
      refine bool_cases Hz (t := 44) rfl ?_ ?_
      ·
       clear Hz; intro hb63 Hz
       try simp only [Q1x, Q2x, Q3x, Q4x, Q5x, Q6x, Q7x, Q8x, Q9x, Q0x, Qax, Qbx] at hb63
       have hj : j < k - 1 := by omega
       have hrk := B1_ok2 k (by omega) (by omega) j (by omega)
       refine wp_cond_true (Hz.ev (x := .tmp 44) rfl) ?_
       refine wp_skip ?_
       refine hK11 _ _ ?_; clear hK11; try clear K11
       refine wp_seq_k (fun K12 hK12 => ?_)
       refine wp_block ?_
       refine wp_region_lit ?_
       refine goCh Hz (.move rfl <| .move rfl <| .buildG rfl zc55be ps55be rfl <| .nil) ?_
       clear Hz Az; intro Az Hz
       refine wpList_plain rfl (fun K hK => ?_)
       refine e_call Hz Tryz.func23 rfl rfl rfl rfl (rRecvPreOk_s _ R (preN (B1 2 k) j) (nilP p9) 2 ((j : Int) + 1) 0 1 0 0 0 _ hrk.1 hrk.2.1.symm hrk.2.2.symm (by rw [hrk.2.2]; omega) (m59.into [(1, 1), (2, 2), (3, 3), (4, 4), (5, 5), (6, 6), (7, 7), (8, 8)] (by decide) rfl)) ?_
       rintro e w67 ⟨p2, o2, rfl, hm67⟩
       have mx67 := m59.back hm67 [(1, 1), (2, 2), (3, 3), (4, 4), (5, 5), (6, 6), (7, 7), (8, 8), (11, 11), (12, 12)] (by decide); clear hm67 m59
       have m67 : MemOk _ _ [(1, _), (2, _), (3, _), (4, _), (5, _), (6, _), (7, _), (8, _), (11, _), (12, _)] _ := mx67.only [1, 2, 3, 4, 5, 6, 7, 8, 11, 12]; clear mx67
       refine ⟨_, rfl, ?_⟩; clear Hz Az; intro Az Hz
       refine hK _ _ ?_; clear hK K
       refine wpList_nil ?_
       refine hK12 _ _ ?_; clear hK12; try clear K12
       replace Hz : Has 132 [(1, _), (5, _), (8, _), (10, _)] Az := Hz.only [1, 5, 8, 10]
       refine wp_region_lit ?_
       refine goCh Hz (.move rfl <| .add rfl rfl (r := ((j + 1 : Nat) : Int) + 1) (by rw [IntWalk.i64_in _ (by omega)]; omega) <| .assign rfl <| .nil) ?_
       clear Hz Az; intro Az Hz
       refine wpList_nil ?_
       show ∃ n', n' < _ ∧ _
       exact ⟨(k - 1) - (j + 1), by omega, j + 1, p2, by omega, rfl, Hz.only [1, 5, 8, 10], m67.only [1, 2, 3, 4, 5, 6, 7, 8]⟩
      ·
       clear Hz; intro hb63 Hz
       try simp only [Q1x, Q2x, Q3x, Q4x, Q5x, Q6x, Q7x, Q8x, Q9x, Q0x, Qax, Qbx] at hb63
       obtain rfl : j = k - 1 := by omega
       refine wp_cond_false (Hz.ev (x := .tmp 44) rfl) ?_
       refine wp_exit ?_
       refine hK10 _ _ ?_; clear hK10; try clear K10
       refine wp_seq_k (fun K13 hK13 => ?_)
       refine regS Hz (.assign rfl <| .nil) ?_
       clear Hz Az; intro Az Hz
       refine wp_block ?_
       refine wp_loop_ghost (fun g a w => ∃ (j : Nat) (p9 : RP), j ≤ (k - 1) ∧ g = (k - 1) - j ∧ Has 132 [(1, .int .u8 (q : Nat)), (5, .int .i64 (k : Nat)), (8, .pointer (some ⟨R, 0, none⟩)), (11, .int .i64 (((j : Nat) : Int) + 1))] a ∧ MemOk (cx (fun _ => False) w0) w0 (rfM R (votN (B2 2 k) j) (nilP p9)) w) ((k - 1)) ?_ ?_
       · exact ⟨0, p9, Nat.zero_le _, rfl, Hz.only [1, 5, 8, 11], m59.only [1, 2, 3, 4, 5, 6, 7, 8]⟩
       ·
        clear Hz m59
        rintro g Az w74 ⟨j, p9, hjl, hg, Hz, m74⟩
        refine wp_seq_k (fun K14 hK14 => ?_)
        refine regS Hz (.move rfl <| .move rfl <| .lss rfl rfl <| .nil) ?_
        clear Hz Az; intro Az Hz
        refine bool_cases Hz (t := 53) rfl ?_ ?_
        ·
         clear Hz; intro hb78 Hz
         try simp only [Q1x, Q2x, Q3x, Q4x, Q5x, Q6x, Q7x, Q8x, Q9x, Q0x, Qax, Qbx] at hb78
         have hj : j < k - 1 := by omega
         have hrk := B2_ok2 k (by omega) (by omega) j (by omega)
         have hte := hrk.2.2.2
         refine wp_cond_true (Hz.ev (x := .tmp 53) rfl) ?_
         refine wp_skip ?_
         refine hK14 _ _ ?_; clear hK14; try clear K14
         refine wp_seq_k (fun K15 hK15 => ?_)
         refine wp_block ?_
         refine wp_region_lit ?_
         refine goCh Hz (.move rfl <| .move rfl <| .buildG rfl zc55be ps55be rfl <| .nil) ?_
         clear Hz Az; intro Az Hz
         refine wpList_plain rfl (fun K hK => ?_)
         refine e_call Hz Tryz.func23 rfl rfl rfl rfl (rRecvVoteOk_s _ R (votN (B2 2 k) j) (nilP p9) 2 ((j : Int) + 1) 0 1 0 0 0 true _ hrk.1 hrk.2.1.symm hrk.2.2.1.symm (by rw [hrk.2.2.1]; omega) hte.symm (m74.into [(1, 1), (2, 2), (3, 3), (4, 4), (5, 5), (6, 6), (7, 7), (8, 8)] (by decide) rfl)) ?_
         rintro e w82 ⟨p2, o2, rfl, hm82⟩
         have mx82 := m74.back hm82 [(1, 1), (2, 2), (3, 3), (4, 4), (5, 5), (6, 6), (7, 7), (8, 8), (11, 11), (12, 12)] (by decide); clear hm82 m74
         have m82 : MemOk _ _ [(1, _), (2, _), (3, _), (4, _), (5, _), (6, _), (7, _), (8, _), (11, _), (12, _)] _ := mx82.only [1, 2, 3, 4, 5, 6, 7, 8, 11, 12]; clear mx82
         refine ⟨_, rfl, ?_⟩; clear Hz Az; intro Az Hz
         refine hK _ _ ?_; clear hK K
         refine wpList_nil ?_
         refine hK15 _ _ ?_; clear hK15; try clear K15
         replace Hz : Has 132 [(1, _), (5, _), (8, _), (11, _)] Az := Hz.only [1, 5, 8, 11]
         refine wp_region_lit ?_
         refine goCh Hz (.move rfl <| .add rfl rfl (r := ((j + 1 : Nat) : Int) + 1) (by rw [IntWalk.i64_in _ (by omega)]; omega) <| .assign rfl <| .nil) ?_
         clear Hz Az; intro Az Hz
         refine wpList_nil ?_
         show ∃ n', n' < _ ∧ _
         exact ⟨(k - 1) - (j + 1), by omega, j + 1, p2, by omega, rfl, Hz.only [1, 5, 8, 11], m82.only [1, 2, 3, 4, 5, 6, 7, 8]⟩
        ·
         clear Hz; intro hb78 Hz
         try simp only [Q1x, Q2x, Q3x, Q4x, Q5x, Q6x, Q7x, Q8x, Q9x, Q0x, Qax, Qbx] at hb78
         obtain rfl : j = k - 1 := by omega
         refine wp_cond_false (Hz.ev (x := .tmp 53) rfl) ?_
         refine wp_exit ?_
         refine hK13 _ _ ?_; clear hK13; try clear K13
         refine wp_seq_k (fun K16 hK16 => ?_)
         refine regS Hz (.assign rfl <| .nil) ?_
         clear Hz Az; intro Az Hz
         refine wp_block ?_
         refine wp_loop_ghost (fun g a w => ∃ (j : Nat) (p9 : RP), j ≤ (q % 30) ∧ g = (q % 30) - j ∧ Has 132 [(1, .int .u8 (q : Nat)), (5, .int .i64 (k : Nat)), (8, .pointer (some ⟨R, 0, none⟩)), (12, .int .i64 (((j : Nat) : Int) + 1))] a ∧ MemOk (cx (fun _ => False) w0) w0 (rfM R (tickN (B3 2 k) j) (nilP p9)) w) ((q % 30)) ?_ ?_
         · exact ⟨0, p9, Nat.zero_le _, rfl, Hz.only [1, 5, 8, 12], m74.only [1, 2, 3, 4, 5, 6, 7, 8]⟩
         ·
          clear Hz m74
          rintro g Az w89 ⟨j, p9, hjl, hg, Hz, m89⟩
          refine wp_seq_k (fun K17 hK17 => ?_)
          refine regS Hz (.move rfl <| .move rfl <| .rem rfl rfl (r := ((q % 30 : Nat) : Int)) (by omega) (by rw [Int.tmod_eq_emod_of_nonneg (by omega)]; omega) <| .conv rfl Tryz.underlying5 Tryz.underlying3 (r := ((q % 30 : Nat) : Int)) (IntWalk.i64_in _ (by omega)) <| .leq rfl rfl <| .nil) ?_
          clear Hz Az; intro Az Hz
          refine bool_cases Hz (t := 64) rfl ?_ ?_
          ·
           clear Hz; intro hb95 Hz
           try simp only [Q1x, Q2x, Q3x, Q4x, Q5x, Q6x, Q7x, Q8x, Q9x, Q0x, Qax, Qbx] at hb95
           have hj : j < q % 30 := by omega
           obtain ⟨hb1, hb2, hb3, hb4⟩ := beatB_out (beat_ok k (by omega) (by omega) j (by omega))
           have hml : (tickS (tickN (B3 2 k) j)).ms.length ≤ 6 := by rw [hb3]; split <;> omega
           refine wp_cond_true (Hz.ev (x := .tmp 64) rfl) ?_
           refine wp_skip ?_
           refine hK17 _ _ ?_; clear hK17; try clear K17
           refine wp_seq_k (fun K18 hK18 => ?_)
           refine wp_block ?_
           refine wp_seq_k (fun K19 hK19 => ?_)
           refine wp_region_lit ?_
           refine goCh Hz (.move rfl .nil) ?_
           clear Hz Az; intro Az Hz
           refine wpList_plain rfl (fun K hK => ?_)
           refine e_call Hz Tryz.func18 rfl rfl rfl rfl (rtick_s _ R (tickN (B3 2 k) j) (nilP p9) _ (tkB_ok hb1).1 (tkB_ok hb1).2 (m89.into [(1, 1), (2, 2), (3, 3), (4, 4), (5, 5), (6, 6), (7, 7), (8, 8)] (by decide) rfl)) ?_
           rintro e w98 ⟨p2, ⟨om, oq, ocm, ocq⟩, rfl, hm98⟩
           have mx98 := m89.back hm98 [(1, 1), (2, 2), (3, 3), (4, 4), (5, 5), (6, 6), (7, 7), (8, 8), (11, 11), (12, 12)] (by decide); clear hm98 m89
           have m98 : MemOk _ _ [(1, _), (2, _), (3, _), (4, _), (5, _), (6, _), (7, _), (8, _), (11, _), (12, _)] _ := mx98.only [1, 2, 3, 4, 5, 6, 7, 8, 11, 12]; clear mx98
           refine ⟨_, rfl, ?_⟩; clear Hz Az; intro Az Hz
           refine hK _ _ ?_; clear hK K
           refine wpList_plain rfl (fun K hK => ?_)
           refine e_alloc Hz m98 500 zc46be rfl ?_
           clear Hz Az m98; intro g100 Az w101 Hz m101 hB101 hg101
           clear hB101 hg101
           refine hK _ _ ?_; clear hK K
           refine wpList_plain rfl (fun K hK => ?_)
           refine e_storeW Hz m101 500 rfl rfl rfl rfl rfl sz46be ?_
           clear m101; intro w102 m102 hB102
           clear hB102
           refine hK _ _ ?_; clear hK K
           refine wpList_nil ?_
           refine hK19 _ _ ?_; clear hK19; try clear K19
           refine wp_seq_k (fun K20 hK20 => ?_)
           replace Hz : Has 132 [(1, _), (5, _), (8, _), (12, _), (13, _)] Az := Hz.only [1, 5, 8, 12, 13]
           refine wp_seq_k (fun K21 hK21 => ?_)
           refine wp_region_lit ?_
           refine goCh Hz (.move rfl <| .rem rfl rfl (r := (((j : Nat) : Int) + 1) % 2) (by omega) (Int.tmod_eq_emod_of_nonneg (by omega)) <| .eql rfl rfl <| .move rfl <| .nil) ?_
           clear Hz Az; intro Az Hz
           refine bool_cases Hz (t := 72) rfl ?_ ?_
           ·
            clear Hz; intro hb112 Hz
            try simp only [Q1x, Q2x, Q3x, Q4x, Q5x, Q6x, Q7x, Q8x, Q9x, Q0x, Qax, Qbx] at hb112
            refine goCh Hz (.fieldAddrZ (off := 0) rfl Tryz.underlying46 rfl (s := 0) (by kernel_rfl) rfl <| .loadB1Z m102 (i := 500) rfl rfl rfl Tryz.underlying43 rfl <| .lenZ rfl Tryz.underlying43 <| .neqZ rfl rfl <| .pickT rfl rfl <| .move rfl <| .nil) ?_
            clear Hz Az; intro Az Hz
            refine bool_cases Hz (t := 78) rfl ?_ ?_
            · intro hb _; exact absurd hb (fun h9 => of_decide_eq_true h9 (by rw [List.length_map, hb3, if_pos (by omega)]; rfl))
            clear Hz; intro _ Hz
            refine goCh Hz (.moveZ rfl <| .remZ rfl rfl (r := (((j : Nat) : Int) + 1) % 2) (by omega) (Int.tmod_eq_emod_of_nonneg (by omega)) <| .eqlZ rfl rfl <| .moveZ rfl <| .nil) ?_
            clear Hz Az; intro Az Hz
            refine bool_cases Hz (t := 82) rfl ?_ ?_
            · intro hb _; exact absurd hb (fun h9 => absurd (of_decide_eq_true h9) (by omega))
            clear Hz; intro _ Hz
            refine goCh Hz (.sk <| .sk <| .sk <| .sk <| .sk <| .sk <| .pickFZ rfl rfl <| .pickF rfl rfl <| .nil) ?_
            clear Hz Az; intro Az Hz
            refine wpList_nil ?_
            refine hK21 _ _ ?_; clear hK21; try clear K21
            refine wp_cond_false (Hz.ev (x := .tmp 90) rfl) ?_
            refine wp_skip ?_
            refine hK20 _ _ ?_; clear hK20; try clear K20
            replace Hz : Has 132 [(1, _), (5, _), (8, _), (12, _), (13, _), (72, _)] Az := Hz.only [1, 5, 8, 12, 13, 72]
            refine regS Hz (.assign rfl <| .nil) ?_
            clear Hz Az; intro Az Hz
            refine wp_block ?_
            have m135 := m102.freezeS 11 rfl (by intro b hb; cases hb); clear m102
            refine wp_loop_ghost (fun g a w => ∃ (i : Nat) (B9 : Nat), i ≤ (tickS (tickN (B3 2 k) j)).ms.length ∧ g = (tickS (tickN (B3 2 k) j)).ms.length - i ∧ Has 132 [(1, .int .u8 (q : Nat)), (5, .int .i64 (k : Nat)), (8, .pointer (some ⟨R, 0, none⟩)), (12, .int .i64 (((j : Nat) : Int) + 1)), (13, .pointer (some ⟨B9, 0, none⟩)), (14, .int .i64 (i : Nat))] a ∧ MemOk (cx (fun _ => False) w0) w0 ((50, .box B9 46 [.slice om ((tickS (tickN (B3 2 k) j)).ms.map rmD).length ocm, .slice oq ((tickS (tickN (B3 2 k) j)).rs.map rrD).length ocq, .bool (tickS (tickN (B3 2 k) j)).re]) :: (11, .dat (.slice om ((tickS (tickN (B3 2 k) j)).ms.map rmD).length ocm) (.l 19 ((tickS (tickN (B3 2 k) j)).ms.map rmD))) :: rfM R (clrS (tickS (tickN (B3 2 k) j))) (nilP p2)) w) ((tickS (tickN (B3 2 k) j)).ms.length) ?_ ?_
            · exact ⟨0, _, Nat.zero_le _, rfl, Hz.only [1, 5, 8, 12, 13, 14], m135.ren [(50, 500), (11, 11), (1, 1), (2, 2), (3, 3), (4, 4), (5, 5), (6, 6), (7, 7), (8, 8)] (by decide)⟩
            ·
             clear Hz m135
             rintro g Az w136 ⟨i, B9, hil, hgi, Hz, m136⟩
             refine wp_seq_k (fun K22 hK22 => ?_)
             refine regS Hz (.move rfl <| .fieldAddr (off := 0) rfl Tryz.underlying46 rfl (s := 0) (by kernel_rfl) rfl <| .loadB1 m136 (i := 50) rfl rfl rfl Tryz.underlying43 rfl <| .len rfl Tryz.underlying43 <| .lss rfl rfl <| .nil) ?_
             clear Hz Az; intro Az Hz
             refine bool_cases Hz (t := 95) rfl ?_ ?_
             ·
              clear Hz; intro hb142 Hz
              try simp only [Q1x, Q2x, Q3x, Q4x, Q5x, Q6x, Q7x, Q8x, Q9x, Q0x, Qax, Qbx] at hb142
              have hi : i < (tickS (tickN (B3 2 k) j)).ms.length := by rw [List.length_map] at hb142; omega
              obtain ⟨c1, c2, c3, c4, c5⟩ := hb4 i hi
              have hrow := rm_get hi
              generalize (tickS (tickN (B3 2 k) j)).ms.getD i m0 = m9 at c1 c2 c3 c4 c5 hrow
              refine wp_cond_true (Hz.ev (x := .tmp 95) rfl) ?_
              refine wp_skip ?_
              refine hK22 _ _ ?_; clear hK22; try clear K22
              refine wp_seq_k (fun K23 hK23 => ?_)
              refine wp_block ?_
              refine wp_seq_k (fun K24 hK24 => ?_)
              refine wp_region_lit ?_
              refine goCh Hz (.fieldAddr (off := 0) rfl Tryz.underlying46 rfl (s := 0) (by kernel_rfl) rfl <| .loadB1 m136 (i := 50) rfl rfl rfl Tryz.underlying43 rfl <| .move rfl <| .nil) ?_
              clear Hz Az; intro Az Hz
              obtain ⟨b150, o150, vs150, hp150, hR150, ho150, m150⟩ := m136.openR (i := 11) rfl (i) (r := [.v (.int .i64 m9.k), .v (.int .i64 m9.g), .v (.int .i64 m9.f), .v (.int .i64 m9.t), .v (.int .i64 m9.te), .v (.int .i64 m9.ix), .v (.int .i64 m9.lt), .v (.int .i64 m9.co), .v (.bool m9.ok), .l 4 (m9.es.map entD), .v (.int .i64 m9.bi), .v (.int .i64 m9.bt), .ns .i64 m9.cf, .ns .u8 m9.bd, .ns .u8 m9.da, .v (.int .i64 m9.vo), .v (.int .i64 m9.ch), .v (.int .i64 m9.ma), .v (.int .i64 m9.fl)]) hrow 600 rfl
              cases hp150; clear m136 ho150
              rcases hR150 with _ | ⟨hd150_0, _ | ⟨hd150_1, _ | ⟨hd150_2, _ | ⟨hd150_3, _ | ⟨hd150_4, _ | ⟨hd150_5, _ | ⟨hd150_6, _ | ⟨hd150_7, _ | ⟨hd150_8, _ | ⟨hd150_9, _ | ⟨hd150_10, _ | ⟨hd150_11, _ | ⟨hd150_12, _ | ⟨hd150_13, _ | ⟨hd150_14, _ | ⟨hd150_15, _ | ⟨hd150_16, _ | ⟨hd150_17, _ | ⟨hd150_18, _ | _⟩⟩⟩⟩⟩⟩⟩⟩⟩⟩⟩⟩⟩⟩⟩⟩⟩⟩⟩
              obtain rfl := hd150_0.v_out
              clear hd150_0
              obtain rfl := hd150_1.v_out
              clear hd150_1
              obtain rfl := hd150_2.v_out
              clear hd150_2
              obtain rfl := hd150_3.v_out
              clear hd150_3
              obtain rfl := hd150_4.v_out
              clear hd150_4
              obtain rfl := hd150_5.v_out
              clear hd150_5
              obtain rfl := hd150_6.v_out
              clear hd150_6
              obtain rfl := hd150_7.v_out
              clear hd150_7
              obtain rfl := hd150_8.v_out
              clear hd150_8
              obtain ⟨p151, c151, hv151, hc151⟩ := hd150_9.l_shape; subst hv151
              have m151 := m150.dat 601 rfl (hd150_9.cast (fun _ h => (free_add rfl h))); clear m150 hd150_9
              obtain rfl := hd150_10.v_out
              clear hd150_10
              obtain rfl := hd150_11.v_out
              clear hd150_11
              obtain ⟨p152, c152, hv152, hc152⟩ := hd150_12.ns_shape; subst hv152
              have m152 := m151.dat 602 rfl (hd150_12.cast (fun _ h => (free_add rfl (free_add rfl h)))); clear m151 hd150_12
              obtain ⟨p153, c153, hv153, hc153⟩ := hd150_13.ns_shape; subst hv153
              have m153 := m152.dat 603 rfl (hd150_13.cast (fun _ h => (free_add rfl (free_add rfl (free_add rfl h))))); clear m152 hd150_13
              obtain ⟨p154, c154, hv154, hc154⟩ := hd150_14.ns_shape; subst hv154
              have m154 := m153.dat 604 rfl (hd150_14.cast (fun _ h => (free_add rfl (free_add rfl (free_add rfl (free_add rfl h)))))); clear m153 hd150_14
              obtain rfl := hd150_15.v_out
              clear hd150_15
              obtain rfl := hd150_16.v_out
              clear hd150_16
              obtain rfl := hd150_17.v_out
              clear hd150_17
              obtain rfl := hd150_18.v_out
              clear hd150_18
              refine goCh Hz (.c rfl (fun _ h_ => y_idx h_ rfl rfl Tryz.underlying43 sz55be (i) rfl (by rw [List.length_map]; exact hi)) <| .loadCR m154 (i := 600) rfl rfl Tryz.underlying55 rfl sz55be <| .nil) ?_
              clear Hz Az; intro Az Hz
              refine wpList_plain rfl (fun K hK => ?_)
              refine e_alloc Hz m154 605 zc55be rfl ?_
              clear Hz Az m154; intro g157 Az w158 Hz m158 hB158 hg158
              clear hB158 hg158
              refine hK _ _ ?_; clear hK K
              refine wpList_plain rfl (fun K hK => ?_)
              refine e_storeW Hz m158 605 rfl rfl rfl rfl rfl sz55be ?_
              clear m158; intro w159 m159 hB159
              clear hB159
              refine hK _ _ ?_; clear hK K
              refine wpList_nil ?_
              refine hK24 _ _ ?_; clear hK24; try clear K24
              replace Hz : Has 132 [(1, _), (5, _), (8, _), (12, _), (13, _), (14, _), (15, _)] Az := Hz.only [1, 5, 8, 12, 13, 14, 15]
              refine wp_seq_k (fun K25 hK25 => ?_)
              refine wp_region_lit ?_
              refine goCh Hz (.fieldAddr (off := 0) rfl Tryz.underlying55 rfl (s := 0) (by kernel_rfl) rfl <| .loadB1 m159 (i := 605) rfl rfl rfl Tryz.underlying3 rfl <| .neq rfl rfl <| .move rfl <| .nil) ?_
              clear Hz Az; intro Az Hz
              refine bool_cases Hz (t := 106) rfl ?_ ?_
              · intro hb _; exact absurd hb (fun h9 => of_decide_eq_true h9 c1)
              clear Hz; intro _ Hz
              refine goCh Hz (.fieldAddrZ (off := 3) rfl Tryz.underlying55 rfl (s := 0) (by kernel_rfl) rfl <| .loadB1Z m159 (i := 605) rfl rfl rfl Tryz.underlying3 rfl <| .moveZ rfl <| .addZ rfl rfl (r := (i : Int) + 1) (IntWalk.i64_in _ (by omega)) <| .neqZ rfl rfl <| .pickF rfl rfl <| .move rfl <| .nil) ?_
              clear Hz Az; intro Az Hz
              refine bool_cases Hz (t := 113) rfl ?_ ?_
              · intro hb _; exact absurd hb (fun h9 => of_decide_eq_true h9 c2)
              clear Hz; intro _ Hz
              refine goCh Hz (.fieldAddrZ (off := 1) rfl Tryz.underlying55 rfl (s := 0) (by kernel_rfl) rfl <| .loadB1Z m159 (i := 605) rfl rfl rfl Tryz.underlying3 rfl <| .neqZ rfl rfl <| .pickF rfl rfl <| .move rfl <| .nil) ?_
              clear Hz Az; intro Az Hz
              refine bool_cases Hz (t := 118) rfl ?_ ?_
              · intro hb _; exact absurd hb (fun h9 => of_decide_eq_true h9 c3)
              clear Hz; intro _ Hz
              refine goCh Hz (.fieldAddrZ (off := 4) rfl Tryz.underlying55 rfl (s := 0) (by kernel_rfl) rfl <| .loadB1Z m159 (i := 605) rfl rfl rfl Tryz.underlying3 rfl <| .neqZ rfl rfl <| .pickF rfl rfl <| .move rfl <| .nil) ?_
              clear Hz Az; intro Az Hz
              refine bool_cases Hz (t := 123) rfl ?_ ?_
              · intro hb _; exact absurd hb (fun h9 => of_decide_eq_true h9 c4)
              clear Hz; intro _ Hz
              refine goCh Hz (.fieldAddrZ (off := 9) rfl Tryz.underlying55 rfl (s := 0) (by kernel_rfl) rfl <| .loadB1Z m159 (i := 605) rfl rfl rfl Tryz.underlying30 rfl <| .lenZ rfl Tryz.underlying30 <| .neqZ rfl rfl <| .pickF rfl rfl <| .nil) ?_
              clear Hz Az; intro Az Hz
              refine wpList_nil ?_
              refine hK25 _ _ ?_; clear hK25; try clear K25
              refine bool_cases Hz (t := 128) rfl ?_ ?_
              · intro hb _; exact absurd hb (fun h9 => of_decide_eq_true h9 (by rw [List.length_map, c5]; rfl))
              clear Hz; intro _ Hz
              refine wp_cond_false (Hz.ev (x := .tmp 128) rfl) ?_
              refine wp_skip ?_
              refine hK23 _ _ ?_; clear hK23; try clear K23
              replace Hz : Has 132 [(1, _), (5, _), (8, _), (12, _), (13, _), (14, _)] Az := Hz.only [1, 5, 8, 12, 13, 14]
              refine wp_region_lit ?_
              refine goCh Hz (.move rfl <| .add rfl rfl (r := ((i + 1 : Nat) : Int)) (by rw [IntWalk.i64_in _ (by omega)]; omega) <| .assign rfl <| .nil) ?_
              clear Hz Az; intro Az Hz
              refine wpList_nil ?_
              show ∃ n', n' < _ ∧ _
              exact ⟨(tickS (tickN (B3 2 k) j)).ms.length - (i + 1), by omega, i + 1, _, by omega, rfl, Hz.only [1, 5, 8, 12, 13, 14], m159.only [50, 11, 1, 2, 3, 4, 5, 6, 7, 8]⟩
             ·
              clear Hz; intro hb142 Hz
              try simp only [Q1x, Q2x, Q3x, Q4x, Q5x, Q6x, Q7x, Q8x, Q9x, Q0x, Qax, Qbx] at hb142
              obtain rfl : i = (tickS (tickN (B3 2 k) j)).ms.length := by rw [List.length_map] at hb142; omega
              refine wp_cond_false (Hz.ev (x := .tmp 95) rfl) ?_
              refine wp_exit ?_
              refine hK18 _ _ ?_; clear hK18; try clear K18
              refine wp_region_lit ?_
              refine goCh Hz (.move rfl <| .add rfl rfl (r := ((j + 1 : Nat) : Int) + 1) (by rw [IntWalk.i64_in _ (by omega)]; omega) <| .assign rfl <| .nil) ?_
              clear Hz Az; intro Az Hz
              refine wpList_nil ?_
              show ∃ n', n' < _ ∧ _
              exact ⟨(q % 30) - (j + 1), by omega, j + 1, p2, by omega, rfl, Hz.only [1, 5, 8, 12], m136.only [1, 2, 3, 4, 5, 6, 7, 8]⟩
           ·
            clear Hz; intro hb112 Hz
            try simp only [Q1x, Q2x, Q3x, Q4x, Q5x, Q6x, Q7x, Q8x, Q9x, Q0x, Qax, Qbx] at hb112
            refine goCh Hz (.sk <| .sk <| .sk <| .sk <| .pickF rfl rfl <| .move rfl <| .moveZ rfl <| .remZ rfl rfl (r := (((j : Nat) : Int) + 1) % 2) (by omega) (Int.tmod_eq_emod_of_nonneg (by omega)) <| .eqlZ rfl rfl <| .moveZ rfl <| .nil) ?_
            clear Hz Az; intro Az Hz
            refine bool_cases Hz (t := 82) rfl ?_ ?_
            rotate_left
            · intro hb _; exact absurd hb (fun h9 => of_decide_eq_false h9 (by omega))
            clear Hz; intro _ Hz
            refine goCh Hz (.fieldAddrZ (off := 0) rfl Tryz.underlying46 rfl (s := 0) (by kernel_rfl) rfl <| .loadB1Z m102 (i := 500) rfl rfl rfl Tryz.underlying43 rfl <| .lenZ rfl Tryz.underlying43 <| .moveZ rfl <| .subZ rfl rfl (IntWalk.i64_in _ (by omega)) <| .neqZ rfl rfl <| .pickTZ rfl rfl <| .pickF rfl rfl <| .nil) ?_
            clear Hz Az; intro Az Hz
            refine wpList_nil ?_
            refine hK21 _ _ ?_; clear hK21; try clear K21
            refine bool_cases Hz (t := 90) rfl ?_ ?_
            · intro hb _; exact absurd hb (fun h9 => of_decide_eq_true h9 (by rw [List.length_map, hb3, if_neg (by omega)]; omega))
            clear Hz; intro _ Hz
            refine wp_cond_false (Hz.ev (x := .tmp 90) rfl) ?_
            refine wp_skip ?_
            refine hK20 _ _ ?_; clear hK20; try clear K20
            replace Hz : Has 132 [(1, _), (5, _), (8, _), (12, _), (13, _), (72, _)] Az := Hz.only [1, 5, 8, 12, 13, 72]
            refine regS Hz (.assign rfl <| .nil) ?_
            clear Hz Az; intro Az Hz
            refine wp_block ?_
            have m225 := m102.freezeS 11 rfl (by intro b hb; cases hb); clear m102
            refine wp_loop_ghost (fun g a w => ∃ (i : Nat) (B9 : Nat), i ≤ (tickS (tickN (B3 2 k) j)).ms.length ∧ g = (tickS (tickN (B3 2 k) j)).ms.length - i ∧ Has 132 [(1, .int .u8 (q : Nat)), (5, .int .i64 (k : Nat)), (8, .pointer (some ⟨R, 0, none⟩)), (12, .int .i64 (((j : Nat) : Int) + 1)), (13, .pointer (some ⟨B9, 0, none⟩)), (14, .int .i64 (i : Nat))] a ∧ MemOk (cx (fun _ => False) w0) w0 ((50, .box B9 46 [.slice om ((tickS (tickN (B3 2 k) j)).ms.map rmD).length ocm, .slice oq ((tickS (tickN (B3 2 k) j)).rs.map rrD).length ocq, .bool (tickS (tickN (B3 2 k) j)).re]) :: (11, .dat (.slice om ((tickS (tickN (B3 2 k) j)).ms.map rmD).length ocm) (.l 19 ((tickS (tickN (B3 2 k) j)).ms.map rmD))) :: rfM R (clrS (tickS (tickN (B3 2 k) j))) (nilP p2)) w) ((tickS (tickN (B3 2 k) j)).ms.length) ?_ ?_
            · exact ⟨0, _, Nat.zero_le _, rfl, Hz.only [1, 5, 8, 12, 13, 14], m225.ren [(50, 500), (11, 11), (1, 1), (2, 2), (3, 3), (4, 4), (5, 5), (6, 6), (7, 7), (8, 8)] (by decide)⟩
            ·
             clear Hz m225
             rintro g Az w226 ⟨i, B9, hil, hgi, Hz, m226⟩
             refine wp_seq_k (fun K26 hK26 => ?_)
             refine regS Hz (.move rfl <| .fieldAddr (off := 0) rfl Tryz.underlying46 rfl (s := 0) (by kernel_rfl) rfl <| .loadB1 m226 (i := 50) rfl rfl rfl Tryz.underlying43 rfl <| .len rfl Tryz.underlying43 <| .lss rfl rfl <| .nil) ?_
             clear Hz Az; intro Az Hz
             refine bool_cases Hz (t := 95) rfl ?_ ?_
             ·
              clear Hz; intro hb232 Hz
              try simp only [Q1x, Q2x, Q3x, Q4x, Q5x, Q6x, Q7x, Q8x, Q9x, Q0x, Qax, Qbx] at hb232
              have hi : i < (tickS (tickN (B3 2 k) j)).ms.length := by rw [List.length_map] at hb232; omega
              obtain ⟨c1, c2, c3, c4, c5⟩ := hb4 i hi
              have hrow := rm_get hi
              generalize (tickS (tickN (B3 2 k) j)).ms.getD i m0 = m9 at c1 c2 c3 c4 c5 hrow
              refine wp_cond_true (Hz.ev (x := .tmp 95) rfl) ?_
              refine wp_skip ?_
              refine hK26 _ _ ?_; clear hK26; try clear K26
              refine wp_seq_k (fun K27 hK27 => ?_)
              refine wp_block ?_
              refine wp_seq_k (fun K28 hK28 => ?_)
              refine wp_region_lit ?_
              refine goCh Hz (.fieldAddr (off := 0) rfl Tryz.underlying46 rfl (s := 0) (by kernel_rfl) rfl <| .loadB1 m226 (i := 50) rfl rfl rfl Tryz.underlying43 rfl <| .move rfl <| .nil) ?_
              clear Hz Az; intro Az Hz
              obtain ⟨b240, o240, vs240, hp240, hR240, ho240, m240⟩ := m226.openR (i := 11) rfl (i) (r := [.v (.int .i64 m9.k), .v (.int .i64 m9.g), .v (.int .i64 m9.f), .v (.int .i64 m9.t), .v (.int .i64 m9.te), .v (.int .i64 m9.ix), .v (.int .i64 m9.lt), .v (.int .i64 m9.co), .v (.bool m9.ok), .l 4 (m9.es.map entD), .v (.int .i64 m9.bi), .v (.int .i64 m9.bt), .ns .i64 m9.cf, .ns .u8 m9.bd, .ns .u8 m9.da, .v (.int .i64 m9.vo), .v (.int .i64 m9.ch), .v (.int .i64 m9.ma), .v (.int .i64 m9.fl)]) hrow 600 rfl
              cases hp240; clear m226 ho240
              rcases hR240 with _ | ⟨hd240_0, _ | ⟨hd240_1, _ | ⟨hd240_2, _ | ⟨hd240_3, _ | ⟨hd240_4, _ | ⟨hd240_5, _ | ⟨hd240_6, _ | ⟨hd240_7, _ | ⟨hd240_8, _ | ⟨hd240_9, _ | ⟨hd240_10, _ | ⟨hd240_11, _ | ⟨hd240_12, _ | ⟨hd240_13, _ | ⟨hd240_14, _ | ⟨hd240_15, _ | ⟨hd240_16, _ | ⟨hd240_17, _ | ⟨hd240_18, _ | _⟩⟩⟩⟩⟩⟩⟩⟩⟩⟩⟩⟩⟩⟩⟩⟩⟩⟩⟩
              obtain rfl := hd240_0.v_out
              clear hd240_0
              obtain rfl := hd240_1.v_out
              clear hd240_1
              obtain rfl := hd240_2.v_out
              clear hd240_2
              obtain rfl := hd240_3.v_out
              clear hd240_3
              obtain rfl := hd240_4.v_out
              clear hd240_4
              obtain rfl := hd240_5.v_out
              clear hd240_5
              obtain rfl := hd240_6.v_out
              clear hd240_6
              obtain rfl := hd240_7.v_out
              clear hd240_7
              obtain rfl := hd240_8.v_out
              clear hd240_8
              obtain ⟨p241, c241, hv241, hc241⟩ := hd240_9.l_shape; subst hv241
              have m241 := m240.dat 601 rfl (hd240_9.cast (fun _ h => (free_add rfl h))); clear m240 hd240_9
              obtain rfl := hd240_10.v_out
              clear hd240_10
              obtain rfl := hd240_11.v_out
              clear hd240_11
              obtain ⟨p242, c242, hv242, hc242⟩ := hd240_12.ns_shape; subst hv242
              have m242 := m241.dat 602 rfl (hd240_12.cast (fun _ h => (free_add rfl (free_add rfl h)))); clear m241 hd240_12
              obtain ⟨p243, c243, hv243, hc243⟩ := hd240_13.ns_shape; subst hv243
              have m243 := m242.dat 603 rfl (hd240_13.cast (fun _ h => (free_add rfl (free_add rfl (free_add rfl h))))); clear m242 hd240_13
              obtain ⟨p244, c244, hv244, hc244⟩ := hd240_14.ns_shape; subst hv244
              have m244 := m243.dat 604 rfl (hd240_14.cast (fun _ h => (free_add rfl (free_add rfl (free_add rfl (free_add rfl h)))))); clear m243 hd240_14
              obtain rfl := hd240_15.v_out
              clear hd240_15
              obtain rfl := hd240_16.v_out
              clear hd240_16
              obtain rfl := hd240_17.v_out
              clear hd240_17
              obtain rfl := hd240_18.v_out
              clear hd240_18
              refine goCh Hz (.c rfl (fun _ h_ => y_idx h_ rfl rfl Tryz.underlying43 sz55be (i) rfl (by rw [List.length_map]; exact hi)) <| .loadCR m244 (i := 600) rfl rfl Tryz.underlying55 rfl sz55be <| .nil) ?_
              clear Hz Az; intro Az Hz
              refine wpList_plain rfl (fun K hK => ?_)
              refine e_alloc Hz m244 605 zc55be rfl ?_
              clear Hz Az m244; intro g247 Az w248 Hz m248 hB248 hg248
              clear hB248 hg248
              refine hK _ _ ?_; clear hK K
              refine wpList_plain rfl (fun K hK => ?_)
              refine e_storeW Hz m248 605 rfl rfl rfl rfl rfl sz55be ?_
              clear m248; intro w249 m249 hB249
              clear hB249
              refine hK _ _ ?_; clear hK K
              refine wpList_nil ?_
              refine hK28 _ _ ?_; clear hK28; try clear K28
              replace Hz : Has 132 [(1, _), (5, _), (8, _), (12, _), (13, _), (14, _), (15, _)] Az := Hz.only [1, 5, 8, 12, 13, 14, 15]
              refine wp_seq_k (fun K29 hK29 => ?_)
              refine wp_region_lit ?_
              refine goCh Hz (.fieldAddr (off := 0) rfl Tryz.underlying55 rfl (s := 0) (by kernel_rfl) rfl <| .loadB1 m249 (i := 605) rfl rfl rfl Tryz.underlying3 rfl <| .neq rfl rfl <| .move rfl <| .nil) ?_
              clear Hz Az; intro Az Hz
              refine bool_cases Hz (t := 106) rfl ?_ ?_
              · intro hb _; exact absurd hb (fun h9 => of_decide_eq_true h9 c1)
              clear Hz; intro _ Hz
              refine goCh Hz (.fieldAddrZ (off := 3) rfl Tryz.underlying55 rfl (s := 0) (by kernel_rfl) rfl <| .loadB1Z m249 (i := 605) rfl rfl rfl Tryz.underlying3 rfl <| .moveZ rfl <| .addZ rfl rfl (r := (i : Int) + 1) (IntWalk.i64_in _ (by omega)) <| .neqZ rfl rfl <| .pickF rfl rfl <| .move rfl <| .nil) ?_
              clear Hz Az; intro Az Hz
              refine bool_cases Hz (t := 113) rfl ?_ ?_
              · intro hb _; exact absurd hb (fun h9 => of_decide_eq_true h9 c2)
              clear Hz; intro _ Hz
              refine goCh Hz (.fieldAddrZ (off := 1) rfl Tryz.underlying55 rfl (s := 0) (by kernel_rfl) rfl <| .loadB1Z m249 (i := 605) rfl rfl rfl Tryz.underlying3 rfl <| .neqZ rfl rfl <| .pickF rfl rfl <| .move rfl <| .nil) ?_
              clear Hz Az; intro Az Hz
              refine bool_cases Hz (t := 118) rfl ?_ ?_
              · intro hb _; exact absurd hb (fun h9 => of_decide_eq_true h9 c3)
              clear Hz; intro _ Hz
              refine goCh Hz (.fieldAddrZ (off := 4) rfl Tryz.underlying55 rfl (s := 0) (by kernel_rfl) rfl <| .loadB1Z m249 (i := 605) rfl rfl rfl Tryz.underlying3 rfl <| .neqZ rfl rfl <| .pickF rfl rfl <| .move rfl <| .nil) ?_
              clear Hz Az; intro Az Hz
              refine bool_cases Hz (t := 123) rfl ?_ ?_
              · intro hb _; exact absurd hb (fun h9 => of_decide_eq_true h9 c4)
              clear Hz; intro _ Hz
              refine goCh Hz (.fieldAddrZ (off := 9) rfl Tryz.underlying55 rfl (s := 0) (by kernel_rfl) rfl <| .loadB1Z m249 (i := 605) rfl rfl rfl Tryz.underlying30 rfl <| .lenZ rfl Tryz.underlying30 <| .neqZ rfl rfl <| .pickF rfl rfl <| .nil) ?_
              clear Hz Az; intro Az Hz
              refine wpList_nil ?_
              refine hK29 _ _ ?_; clear hK29; try clear K29
              refine bool_cases Hz (t := 128) rfl ?_ ?_
              · intro hb _; exact absurd hb (fun h9 => of_decide_eq_true h9 (by rw [List.length_map, c5]; rfl))
              clear Hz; intro _ Hz
              refine wp_cond_false (Hz.ev (x := .tmp 128) rfl) ?_
              refine wp_skip ?_
              refine hK27 _ _ ?_; clear hK27; try clear K27
              replace Hz : Has 132 [(1, _), (5, _), (8, _), (12, _), (13, _), (14, _)] Az := Hz.only [1, 5, 8, 12, 13, 14]
              refine wp_region_lit ?_
              refine goCh Hz (.move rfl <| .add rfl rfl (r := ((i + 1 : Nat) : Int)) (by rw [IntWalk.i64_in _ (by omega)]; omega) <| .assign rfl <| .nil) ?_
              clear Hz Az; intro Az Hz
              refine wpList_nil ?_
              show ∃ n', n' < _ ∧ _
              exact ⟨(tickS (tickN (B3 2 k) j)).ms.length - (i + 1), by omega, i + 1, _, by omega, rfl, Hz.only [1, 5, 8, 12, 13, 14], m249.only [50, 11, 1, 2, 3, 4, 5, 6, 7, 8]⟩
             ·
              clear Hz; intro hb232 Hz
              try simp only [Q1x, Q2x, Q3x, Q4x, Q5x, Q6x, Q7x, Q8x, Q9x, Q0x, Qax, Qbx] at hb232
              obtain rfl : i = (tickS (tickN (B3 2 k) j)).ms.length := by rw [List.length_map] at hb232; omega
              refine wp_cond_false (Hz.ev (x := .tmp 95) rfl) ?_
              refine wp_exit ?_
              refine hK18 _ _ ?_; clear hK18; try clear K18
              refine wp_region_lit ?_
              refine goCh Hz (.move rfl <| .add rfl rfl (r := ((j + 1 : Nat) : Int) + 1) (by rw [IntWalk.i64_in _ (by omega)]; omega) <| .assign rfl <| .nil) ?_
              clear Hz Az; intro Az Hz
              refine wpList_nil ?_
              show ∃ n', n' < _ ∧ _
              exact ⟨(q % 30) - (j + 1), by omega, j + 1, p2, by omega, rfl, Hz.only [1, 5, 8, 12], m226.only [1, 2, 3, 4, 5, 6, 7, 8]⟩
          ·
           clear Hz; intro hb95 Hz
           try simp only [Q1x, Q2x, Q3x, Q4x, Q5x, Q6x, Q7x, Q8x, Q9x, Q0x, Qax, Qbx] at hb95
           obtain rfl : j = q % 30 := by omega
           have hb2 := (beatB_out (beat_ok k (by omega) (by omega) (q % 30) (by omega))).2.1
           refine wp_cond_false (Hz.ev (x := .tmp 64) rfl) ?_
           refine wp_exit ?_
           refine hK16 _ _ ?_; clear hK16; try clear K16
           refine wp_seq_k (fun K30 hK30 => ?_)
           refine wp_region_lit ?_
           refine goCh Hz (.move rfl .nil) ?_
           clear Hz Az; intro Az Hz
           refine wpList_plain rfl (fun K hK => ?_)
           refine e_call Hz Tryz.func29 rfl rfl rfl rfl (rRole _ R (tickN (B3 2 k) (q % 30)) (nilP p9) _ (m89.into [(1, 1), (2, 2), (3, 3), (4, 4), (5, 5), (6, 6), (7, 7), (8, 8)] (by decide) rfl)) ?_
           rintro e w295 ⟨rfl, hm295⟩
           have mx295 := m89.back hm295 [(1, 1), (2, 2), (3, 3), (4, 4), (5, 5), (6, 6), (7, 7), (8, 8)] (by decide); clear hm295 m89
           have m295 : MemOk _ _ [(1, _), (2, _), (3, _), (4, _), (5, _), (6, _), (7, _), (8, _)] _ := mx295.only [1, 2, 3, 4, 5, 6, 7, 8]; clear mx295
           refine ⟨_, rfl, ?_⟩; clear Hz Az; intro Az Hz
           refine hK _ _ ?_; clear hK K
           refine goCh Hz (.eql rfl rfl <| .assign rfl <| .nil) ?_
           clear Hz Az; intro Az Hz
           refine wpList_nil ?_
           refine hK30 _ _ ?_; clear hK30; try clear K30
           refine wp_ret ?_
           try dsimp only [Exit.then, Exit.inBlock]
           refine (ret1 (fn := Tryz.f9) Hz rfl rfl ?_)
           exact ⟨by rw [hb2]; rfl, m295.below⟩
end Go.Proofs.YtndnnlbdnjndiaaGreat.K
