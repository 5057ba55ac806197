/- RaftCommits' walk. -/
import Derived.Test.YtndnnlbdnjndiaaGreatRafQ
namespace Go.Proofs.YtndnnlbdnjndiaaGreat.K
open Go.ChangeShapes Go.WideShapes Go.ChangeAt Go.RowKit
set_option linter.unusedVariables false
set_option linter.unusedSimpArgs false

theorem fl25rc : flatS Tryz.prog 25 [.int .i64 0, .int .i64 0] = true := by kernel_rfl
theorem fl29rc : flatS Tryz.prog 29 [.int .i64 0, .int .i64 0, .slice none 0 0, .slice none 0 0] = true := by kernel_rfl
theorem inf3rc : (Tryz.prog.info? 3).map (fun i => (i.zero, i.size, i.bytes)) = some (some (.int .i64 0), 1, 8) := by kernel_rfl
theorem inf5rc : (Tryz.prog.info? 5).map (fun i => (i.zero, i.size, i.bytes)) = some (some (.int .u8 0), 1, 1) := by kernel_rfl
theorem ps32rc : placesS Tryz.prog 32 = some [(0, 2), (2, 4), (6, 1)] := by kernel_rfl
theorem ps55rc : placesS Tryz.prog 55 = some [(0, 1), (1, 1), (2, 1), (3, 1), (4, 1), (5, 1), (6, 1), (7, 1), (8, 1), (9, 1), (10, 4), (14, 1), (15, 1), (16, 1), (17, 1), (18, 1)] := by kernel_rfl
theorem sz3rc : (Tryz.prog.info? 3).map (·.size) = some 1 := by kernel_rfl
theorem sz5rc : (Tryz.prog.info? 5).map (·.size) = some 1 := by kernel_rfl
theorem sz46rc : (Tryz.prog.info? 46).map (·.size) = some 3 := by kernel_rfl
theorem zc25rc : ((Tryz.prog.info? 25).bind (·.zero)).map (·.cells.toList) = some [.int .i64 0, .int .i64 0] := by kernel_rfl
theorem zc29rc : ((Tryz.prog.info? 29).bind (·.zero)).map (·.cells.toList) = some [.int .i64 0, .int .i64 0, .slice none 0 0, .slice none 0 0] := by kernel_rfl
theorem zc32rc : ((Tryz.prog.info? 32).bind (·.zero)).map (·.cells.toList) = some [.int .i64 0, .int .i64 0, .int .i64 0, .int .i64 0, .slice none 0 0, .slice none 0 0, .slice none 0 0] := by kernel_rfl
theorem zc46rc : ((Tryz.prog.info? 46).bind (·.zero)).map (·.cells.toList) = some [.slice none 0 0, .slice none 0 0, .bool false] := by kernel_rfl
theorem zc55rc : ((Tryz.prog.info? 55).bind (·.zero)).map (·.cells.toList) = some [.int .i64 0, .int .i64 0, .int .i64 0, .int .i64 0, .int .i64 0, .int .i64 0, .int .i64 0, .int .i64 0, .bool false, .slice none 0 0, .int .i64 0, .int .i64 0, .slice none 0 0, .slice none 0 0, .slice none 0 0, .int .i64 0, .int .i64 0, .int .i64 0, .int .i64 0] := by kernel_rfl
theorem zc72rc : ((Tryz.prog.info? 72).bind (·.zero)).map (·.cells.toList) = some [.int .i64 0, .int .i64 0, .int .i64 0, .int .i64 0, .int .i64 0, .int .i64 0, .int .i64 0, .int .i64 0] := by kernel_rfl

theorem cnt_take_le (j : Int) (L : List Int) (m : Nat) : cnt j (L.take m) ≤ m := Nat.le_trans List.countP_le_length (List.length_take_le _ _)
theorem cnt_take_yes {j : Int} {L : List Int} {m : Nat} (hm : m < L.length) (h : j ≤ L.getD m 0) : cnt j (L.take m) + 1 = cnt j (L.take (m + 1)) := by
 rw [take_getD hm, cnt_snoc, if_pos h]
theorem cnt_take_no {j : Int} {L : List Int} {m : Nat} (hm : m < L.length) (h : L.getD m 0 < j) : cnt j (L.take m) = cnt j (L.take (m + 1)) := by
 rw [take_getD hm, cnt_snoc, if_neg (by omega)]; rfl
theorem U_bd {f : Nat} {v h l : Int} {i : Nat} (hv : 0 ≤ v ∧ v ≤ l) (hh : 0 ≤ h ∧ h ≤ l) : 0 ≤ U f v i h ∧ U f v i h ≤ l := by
 unfold U; split <;> omega
theorem WN_zero {k c : Nat} (hk : k < 6) (h2 : 2 ≤ k) : WN k [(c : Int) + 1, 0, 0, 0, 0] (c + 1) = 0 := by
 rcases WN_maj k [(c : Int) + 1, 0, 0, 0, 0] (c + 1) with h | h
 · exact h
 · have hb := WN_bd k [(c : Int) + 1, 0, 0, 0, 0] (c + 1)
   by_cases h0 : WN k [(c : Int) + 1, 0, 0, 0, 0] (c + 1) = 0
   · exact h0
   · exfalso
     generalize WN k [(c : Int) + 1, 0, 0, 0, 0] (c + 1) = w at h hb h0
     have hw : ¬ w ≤ 0 := by omega
     rcases (show k = 2 ∨ k = 3 ∨ k = 4 ∨ k = 5 by omega) with rfl | rfl | rfl | rfl <;> (simp [cnt, List.countP_cons, hw] at h; split at h <;> omega)
theorem ready_len {k c : Nat} {a1 a2 a3 a4 w : Int} (h : PropOut k c) (hw : 0 ≤ w ∧ w ≤ ((c + 1 : Nat) : Int)) : (((fromL (AK k c a1 a2 a3 a4 w).bi (AK k c a1 a2 a3 a4 w).es ((AK k c a1 a2 a3 a4 w).x.ap + 1) ((AK k c a1 a2 a3 a4 w).x.co - (AK k c a1 a2 a3 a4 w).x.ap)).map entD).length : Int) = (AK k c a1 a2 a3 a4 w).x.co := by
 rw [List.length_map]
 show ((fromL (propN k c).bi (propN k c).es ((propN k c).x.ap + 1) (w - (propN k c).x.ap)).length : Int) = w
 rw [h.bi, h.ap]
 unfold fromL
 rw [List.length_take, List.length_drop, h.es]
 omega
set_option maxRecDepth 100000
set_option maxHeartbeats 4000000
theorem commits_walk (x0 : Int) (q : Nat) (yl : List Int) (pa1 : Option Addr) (ca1 : Nat) (w0 : World) (h0 : 0 ≤ x0 ∧ x0 ≤ 255) (hq : q ≤ 255) (h1 : Rd (fun _ => True) w0 (.slice pa1 yl.length ca1) (.ns .u8 yl)) (hyv : ∀ j, j < yl.length → 0 ≤ yl.getD j 0 ∧ yl.getD j 0 ≤ 255) :
   Calls Tryz.prog 7 #[.int .u8 x0, .slice pa1 yl.length ca1, .int .u8 (q : Int)] w0 fun e w' => e = .returned (.bool true) ∧ Below w0.heap.size w0 w' := by
 refine enter (fn := Tryz.f7) Tryz.func7 rfl Tryz.ntmps7 rfl (fun Az Hz => ?_)
 simp only [List.zipIdx_cons, List.zipIdx_nil, List.map_cons, List.map_nil, Nat.reduceAdd, Nat.zero_add] at Hz
 have m0 := MemOk.start (fun _ => False) w0
 obtain ⟨k, hk⟩ : ∃ k : Nat, (k : Int) = x0 % 4 + 2 := ⟨(x0 % 4 + 2).toNat, by omega⟩
 refine regS Hz (.assign rfl <| .nil) ?_
 clear Hz Az; intro Az Hz
 refine wp_seq_k (fun K0 hK0 => ?_)
 refine wp_seq_k (fun K1 hK1 => ?_)
 refine wp_region_lit ?_
 refine wpList_plain rfl (fun K hK => ?_)
 refine e_call Hz Tryz.func10 rfl rfl rfl rfl (rknown_any _) ?_
 rintro e w2 ⟨rfl, hb2⟩
 have m3 := m0.later hb2
 clear m0
 clear hb2
 refine ⟨_, rfl, ?_⟩; clear Hz Az; intro Az Hz
 refine hK _ _ ?_; clear hK K
 refine goCh Hz (.not rfl .nil) ?_
 clear Hz Az; intro Az Hz
 refine wpList_nil ?_
 refine hK1 _ _ ?_; clear hK1; try clear K1
 refine wp_cond_false (Hz.ev (x := .tmp 28) rfl) ?_
 refine wp_skip ?_
 refine hK0 _ _ ?_; clear hK0; try clear K0
 refine wp_seq_k (fun K2 hK2 => ?_)
 refine regS Hz (.move rfl <| .len rfl Tryz.underlying27 <| .gtr rfl rfl <| .nil) ?_
 clear Hz Az; intro Az Hz
 refine bool_cases Hz (t := 31) rfl ?_ ?_
 ·
  clear Hz; intro hb9 Hz
  try simp only [Q1x, Q2x, Q3x, Q4x, Q5x, Q6x, Q7x, Q8x, Q9x, Q0x, Qax, Qbx] at hb9
  refine wp_cond_true (Hz.ev (x := .tmp 31) rfl) ?_
  refine regS Hz (.assign rfl <| .nil) ?_
  clear Hz Az; intro Az Hz
  refine wp_ret ?_
  try dsimp only [Exit.then, Exit.inBlock]
  refine (ret1 (fn := Tryz.f7) Hz rfl rfl ?_)
  exact ⟨rfl, m3.below⟩
 ·
  clear Hz; intro hb9 Hz
  try simp only [Q1x, Q2x, Q3x, Q4x, Q5x, Q6x, Q7x, Q8x, Q9x, Q0x, Qax, Qbx] at hb9
  refine wp_cond_false (Hz.ev (x := .tmp 31) rfl) ?_
  refine wp_skip ?_
  refine hK2 _ _ ?_; clear hK2; try clear K2
  refine regS Hz (.move rfl <| .rem rfl rfl (r := x0 % 4) (by omega) (Int.tmod_eq_emod_of_nonneg (by omega)) <| .conv rfl Tryz.underlying5 Tryz.underlying3 (r := x0 % 4) (IntWalk.i64_in _ (by omega)) <| .add rfl rfl (r := (k : Int)) (by rw [IntWalk.i64_in _ (by omega)]; omega) <| .assign rfl <| .nil) ?_
  clear Hz Az; intro Az Hz
  replace Hz : Has 174 [(1, _), (2, _), (6, _), (7, _)] Az := Hz.only [1, 2, 6, 7]
  refine wp_seq_k (fun K3 hK3 => ?_)
  refine wp_region_lit ?_
  have m18 := m3.nilN 40 3 .i64
  clear m3
  refine goCh Hz (.assign rfl .nil) ?_
  clear Hz Az; intro Az Hz
  refine wpList_nil ?_
  refine hK3 _ _ ?_; clear hK3; try clear K3
  refine wp_seq_k (fun K4 hK4 => ?_)
  refine regS Hz (.assign rfl <| .nil) ?_
  clear Hz Az; intro Az Hz
  refine wp_block ?_
  refine wp_loop_ghost (fun g a w => ∃ (i : Nat) (pu : Option Addr) (cu : Nat), i ≤ k ∧ g = k - i ∧ Has 174 [(7, .int .i64 (k : Nat)), (8, .slice pu (upL i).length cu), (9, .int .i64 (i : Nat)), (1, .slice pa1 yl.length ca1), (2, .int .u8 (q : Nat))] a ∧ MemOk (cx (fun _ => False) w0) w0 [(30, .num (.slice pu (upL i).length cu) 3 .i64 (upL i))] w) (k) ?_ ?_
  · exact ⟨0, none, 0, Nat.zero_le _, rfl, Hz.only [7, 8, 9, 1, 2], m18.ren [(30, 40)] (by decide)⟩
  ·
   clear Hz m18
   rintro g Az w21 ⟨i, pu, cu, hil, hg, Hz, m21⟩
   refine wp_seq_k (fun K5 hK5 => ?_)
   refine regS Hz (.move rfl <| .move rfl <| .lss rfl rfl <| .nil) ?_
   clear Hz Az; intro Az Hz
   refine bool_cases Hz (t := 38) rfl ?_ ?_
   ·
    clear Hz; intro hb25 Hz
    try simp only [Q1x, Q2x, Q3x, Q4x, Q5x, Q6x, Q7x, Q8x, Q9x, Q0x, Qax, Qbx] at hb25
    have hi : i < k := by omega
    refine wp_cond_true (Hz.ev (x := .tmp 38) rfl) ?_
    refine wp_skip ?_
    refine hK5 _ _ ?_; clear hK5; try clear K5
    refine wp_seq_k (fun K6 hK6 => ?_)
    refine wp_block ?_
    refine wp_region_lit ?_
    refine goCh Hz (.move rfl <| .move rfl <| .nil) ?_
    clear Hz Az; intro Az Hz
    refine wpList_plain rfl (fun K hK => ?_)
    refine e_litN Hz m21 100 (k := .i64) rfl rfl Tryz.underlying26 inf3rc rfl rfl rfl rfl ?_
    clear Hz Az m21; intro g28 Az w29 Hz m29
    refine hK _ _ ?_; clear hK K
    refine wpList_plain rfl (fun K hK => ?_)
    refine e_appN Hz m29 30 rfl rfl rfl (m29.numsO (i := 100) rfl) Tryz.underlying26 inf3rc (by decide) (by rw [upL_len]; simp; omega) rfl ?_
    clear Hz Az m29; intro p30 c30 Az w31 Hz m31
    refine hK _ _ ?_; clear hK K
    refine goCh Hz (.assign rfl .nil) ?_
    clear Hz Az; intro Az Hz
    refine wpList_nil ?_
    refine hK6 _ _ ?_; clear hK6; try clear K6
    replace Hz : Has 174 [(7, _), (8, _), (9, _), (1, _), (2, _)] Az := Hz.only [7, 8, 9, 1, 2]
    refine wp_region_lit ?_
    refine goCh Hz (.move rfl <| .add rfl rfl (r := ((i + 1 : Nat) : Int)) (by rw [IntWalk.i64_in _ (by omega)]; omega) <| .assign rfl <| .nil) ?_
    clear Hz Az; intro Az Hz
    refine wpList_nil ?_
    show ∃ n', n' < _ ∧ _
    rw [upL_snoc] at Hz m31
    exact ⟨k - (i + 1), by omega, i + 1, _, _, by omega, rfl, Hz.only [7, 8, 9, 1, 2], m31.only [30]⟩
   ·
    clear Hz; intro hb25 Hz
    try simp only [Q1x, Q2x, Q3x, Q4x, Q5x, Q6x, Q7x, Q8x, Q9x, Q0x, Qax, Qbx] at hb25
    obtain rfl : k = i := by omega
    refine wp_cond_false (Hz.ev (x := .tmp 38) rfl) ?_
    refine wp_exit ?_
    refine hK4 _ _ ?_; clear hK4; try clear K4
    refine wp_seq_k (fun K7 hK7 => ?_)
    refine wp_region_lit ?_
    refine goCh Hz (.build rfl zc25rc fl25rc rfl (by dsimp only [setL, List.set] <;> rfl) <| .move rfl <| .build rfl zc29rc fl29rc rfl (by dsimp only [setL, List.set] <;> rfl) <| .buildG rfl zc32rc ps32rc rfl <| .nil) ?_
    clear Hz Az; intro Az Hz
    have m45 := m21.freezeN 30 rfl; clear m21
    have m46 := m45.dat 100 rfl (Rd.nilN _ _ .u8 none); clear m45
    have m47 := m46.dat 101 rfl (Rd.nil4 _ _); clear m46
    refine wpList_plain rfl (fun K hK => ?_)
    refine e_call Hz Tryz.func11 rfl rfl rfl rfl (rNew_s _ 0 1 0 (-1) 0 0 (upL k) [] [] _ _ _ _ _ _ _ _ (by decide) (by rw [upL_len]; omega) (by decide) (by decide) (by intro e he; cases he) (m47.into [(5, 30), (6, 100), (7, 101)] (by decide) rfl)) ?_
    rintro e w48 ⟨R, p1, rfl, hm48⟩
    have mx48 := m47.back hm48 [(1, 1), (2, 2), (3, 3), (4, 4), (5, 5), (6, 6), (7, 7), (8, 8)] (by decide); clear hm48 m47
    have m48 : MemOk _ _ [(1, _), (2, _), (3, _), (4, _), (5, _), (6, _), (7, _), (8, _)] _ := mx48.only [1, 2, 3, 4, 5, 6, 7, 8]; clear mx48
    refine ⟨_, rfl, ?_⟩; clear Hz Az; intro Az Hz
    refine hK _ _ ?_; clear hK K
    refine goCh Hz (.assign rfl .nil) ?_
    clear Hz Az; intro Az Hz
    refine wpList_nil ?_
    refine hK7 _ _ ?_; clear hK7; try clear K7
    refine wp_seq_k (fun K8 hK8 => ?_)
    replace Hz : Has 174 [(7, _), (8, _), (9, _), (1, _), (2, _), (10, _)] Az := Hz.only [7, 8, 9, 1, 2, 10]
    refine regS Hz (.assign rfl <| .nil) ?_
    clear Hz Az; intro Az Hz
    refine wp_block ?_
    refine wp_loop_ghost (fun g a w => ∃ (j : Nat) (p9 : RP), j ≤ 10 ∧ g = 10 - j ∧ Has 174 [(1, .slice pa1 yl.length ca1), (2, .int .u8 (q : Nat)), (7, .int .i64 (k : Nat)), (10, .pointer (some ⟨R, 0, none⟩)), (11, .int .i64 ((j : Nat)))] a ∧ MemOk (cx (fun _ => False) w0) w0 (rfM R (tickN (B0 1 k) j) (nilP p9)) w) (10) ?_ ?_
    · exact ⟨0, p1, Nat.zero_le _, rfl, Hz.only [1, 2, 7, 10, 11], m48.only [1, 2, 3, 4, 5, 6, 7, 8]⟩
    ·
     clear Hz m48
     rintro g Az w53 ⟨j, p9, hjl, hg, Hz, m53⟩
     refine wp_seq_k (fun K9 hK9 => ?_)
     refine regS Hz (.move rfl <| .lss rfl rfl <| .nil) ?_
     clear Hz Az; intro Az Hz
     refine bool_cases Hz (t := 51) rfl ?_ ?_
     ·
      clear Hz; intro hb56 Hz
      try simp only [Q1x, Q2x, Q3x, Q4x, Q5x, Q6x, Q7x, Q8x, Q9x, Q0x, Qax, Qbx] at hb56
      have hj : j < 10 := by omega
      refine wp_cond_true (Hz.ev (x := .tmp 51) rfl) ?_
      refine wp_skip ?_
      refine hK9 _ _ ?_; clear hK9; try clear K9
      refine wp_seq_k (fun K10 hK10 => ?_)
      refine wp_block ?_
      refine wp_region_lit ?_
      refine goCh Hz (.move rfl .nil) ?_
      clear Hz Az; intro Az Hz
      refine wpList_plain rfl (fun K hK => ?_)
      refine e_call Hz Tryz.func18 rfl rfl rfl rfl (rtick_s _ R (tickN (B0 1 k) j) (nilP p9) _ (tkB_ok (B0_ok1 k (by omega) (by omega) j hj)).1 (tkB_ok (B0_ok1 k (by omega) (by omega) j hj)).2 (m53.into [(1, 1), (2, 2), (3, 3), (4, 4), (5, 5), (6, 6), (7, 7), (8, 8)] (by decide) rfl)) ?_
      rintro e w58 ⟨p2, o2, rfl, hm58⟩
      have mx58 := m53.back hm58 [(1, 1), (2, 2), (3, 3), (4, 4), (5, 5), (6, 6), (7, 7), (8, 8), (11, 11), (12, 12)] (by decide); clear hm58 m53
      have m58 : MemOk _ _ [(1, _), (2, _), (3, _), (4, _), (5, _), (6, _), (7, _), (8, _), (11, _), (12, _)] _ := mx58.only [1, 2, 3, 4, 5, 6, 7, 8, 11, 12]; clear mx58
      refine ⟨_, rfl, ?_⟩; clear Hz Az; intro Az Hz
      refine hK _ _ ?_; clear hK K
      refine wpList_nil ?_
      refine hK10 _ _ ?_; clear hK10; try clear K10
      refine wp_region_lit ?_
      refine goCh Hz (.move rfl <| .add rfl rfl (r := ((j + 1 : Nat) : Int)) (by rw [IntWalk.i64_in _ (by omega)]; omega) <| .assign rfl <| .nil) ?_
      clear Hz Az; intro Az Hz
      refine wpList_nil ?_
      show ∃ n', n' < _ ∧ _
      exact ⟨10 - (j + 1), by omega, j + 1, p2, by omega, rfl, Hz.only [1, 2, 7, 10, 11], m58.only [1, 2, 3, 4, 5, 6, 7, 8]⟩
     ·
      clear Hz; intro hb56 Hz
      try simp only [Q1x, Q2x, Q3x, Q4x, Q5x, Q6x, Q7x, Q8x, Q9x, Q0x, Qax, Qbx] at hb56
      obtain rfl : j = 10 := by omega
      refine wp_cond_false (Hz.ev (x := .tmp 51) rfl) ?_
      refine wp_exit ?_
      refine hK8 _ _ ?_; clear hK8; try clear K8
      refine wp_seq_k (fun K11 hK11 => ?_)
      refine regS Hz (.assign rfl <| .nil) ?_
      clear Hz Az; intro Az Hz
      refine wp_block ?_
      refine wp_loop_ghost (fun g a w => ∃ (j : Nat) (p9 : RP), j ≤ (k - 1) ∧ g = (k - 1) - j ∧ Has 174 [(1, .slice pa1 yl.length ca1), (2, .int .u8 (q : Nat)), (7, .int .i64 (k : Nat)), (10, .pointer (some ⟨R, 0, none⟩)), (12, .int .i64 (((j : Nat) : Int) + 1))] a ∧ MemOk (cx (fun _ => False) w0) w0 (rfM R (preN (B1 1 k) j) (nilP p9)) w) ((k - 1)) ?_ ?_
      · exact ⟨0, p9, Nat.zero_le _, rfl, Hz.only [1, 2, 7, 10, 12], m53.only [1, 2, 3, 4, 5, 6, 7, 8]⟩
      ·
       clear Hz m53
       rintro g Az w64 ⟨j, p9, hjl, hg, Hz, m64⟩
       refine wp_seq_k (fun K12 hK12 => ?_)
       refine regS Hz (.move rfl <| .move rfl <| .lss rfl rfl <| .nil) ?_
       clear Hz Az; intro Az Hz
       refine bool_cases Hz (t := 58) rfl ?_ ?_
       ·
        clear Hz; intro hb68 Hz
        try simp only [Q1x, Q2x, Q3x, Q4x, Q5x, Q6x, Q7x, Q8x, Q9x, Q0x, Qax, Qbx] at hb68
        have hj : j < k - 1 := by omega
        have hrk := B1_ok1 k (by omega) (by omega) j (by omega)
        refine wp_cond_true (Hz.ev (x := .tmp 58) rfl) ?_
        refine wp_skip ?_
        refine hK12 _ _ ?_; clear hK12; try clear K12
        refine wp_seq_k (fun K13 hK13 => ?_)
        refine wp_block ?_
        refine wp_region_lit ?_
        refine goCh Hz (.move rfl <| .move rfl <| .buildG rfl zc55rc ps55rc rfl <| .nil) ?_
        clear Hz Az; intro Az Hz
        refine wpList_plain rfl (fun K hK => ?_)
        refine e_call Hz Tryz.func23 rfl rfl rfl rfl (rRecvPreOk_s _ R (preN (B1 1 k) j) (nilP p9) 1 ((j : Int) + 1) 0 1 0 0 0 _ hrk.1 hrk.2.1.symm hrk.2.2.symm (by rw [hrk.2.2]; omega) (m64.into [(1, 1), (2, 2), (3, 3), (4, 4), (5, 5), (6, 6), (7, 7), (8, 8)] (by decide) rfl)) ?_
        rintro e w72 ⟨p2, o2, rfl, hm72⟩
        have mx72 := m64.back hm72 [(1, 1), (2, 2), (3, 3), (4, 4), (5, 5), (6, 6), (7, 7), (8, 8), (11, 11), (12, 12)] (by decide); clear hm72 m64
        have m72 : MemOk _ _ [(1, _), (2, _), (3, _), (4, _), (5, _), (6, _), (7, _), (8, _), (11, _), (12, _)] _ := mx72.only [1, 2, 3, 4, 5, 6, 7, 8, 11, 12]; clear mx72
        refine ⟨_, rfl, ?_⟩; clear Hz Az; intro Az Hz
        refine hK _ _ ?_; clear hK K
        refine wpList_nil ?_
        refine hK13 _ _ ?_; clear hK13; try clear K13
        replace Hz : Has 174 [(1, _), (2, _), (7, _), (10, _), (12, _)] Az := Hz.only [1, 2, 7, 10, 12]
        refine wp_region_lit ?_
        refine goCh Hz (.move rfl <| .add rfl rfl (r := ((j + 1 : Nat) : Int) + 1) (by rw [IntWalk.i64_in _ (by omega)]; omega) <| .assign rfl <| .nil) ?_
        clear Hz Az; intro Az Hz
        refine wpList_nil ?_
        show ∃ n', n' < _ ∧ _
        exact ⟨(k - 1) - (j + 1), by omega, j + 1, p2, by omega, rfl, Hz.only [1, 2, 7, 10, 12], m72.only [1, 2, 3, 4, 5, 6, 7, 8]⟩
       ·
        clear Hz; intro hb68 Hz
        try simp only [Q1x, Q2x, Q3x, Q4x, Q5x, Q6x, Q7x, Q8x, Q9x, Q0x, Qax, Qbx] at hb68
        obtain rfl : j = k - 1 := by omega
        refine wp_cond_false (Hz.ev (x := .tmp 58) rfl) ?_
        refine wp_exit ?_
        refine hK11 _ _ ?_; clear hK11; try clear K11
        refine wp_seq_k (fun K14 hK14 => ?_)
        refine regS Hz (.assign rfl <| .nil) ?_
        clear Hz Az; intro Az Hz
        refine wp_block ?_
        refine wp_loop_ghost (fun g a w => ∃ (j : Nat) (p9 : RP), j ≤ (k - 1) ∧ g = (k - 1) - j ∧ Has 174 [(1, .slice pa1 yl.length ca1), (2, .int .u8 (q : Nat)), (7, .int .i64 (k : Nat)), (10, .pointer (some ⟨R, 0, none⟩)), (13, .int .i64 (((j : Nat) : Int) + 1))] a ∧ MemOk (cx (fun _ => False) w0) w0 (rfM R (votN (B2 1 k) j) (nilP p9)) w) ((k - 1)) ?_ ?_
        · exact ⟨0, p9, Nat.zero_le _, rfl, Hz.only [1, 2, 7, 10, 13], m64.only [1, 2, 3, 4, 5, 6, 7, 8]⟩
        ·
         clear Hz m64
         rintro g Az w79 ⟨j, p9, hjl, hg, Hz, m79⟩
         refine wp_seq_k (fun K15 hK15 => ?_)
         refine regS Hz (.move rfl <| .move rfl <| .lss rfl rfl <| .nil) ?_
         clear Hz Az; intro Az Hz
         refine bool_cases Hz (t := 67) rfl ?_ ?_
         ·
          clear Hz; intro hb83 Hz
          try simp only [Q1x, Q2x, Q3x, Q4x, Q5x, Q6x, Q7x, Q8x, Q9x, Q0x, Qax, Qbx] at hb83
          have hj : j < k - 1 := by omega
          have hrk := B2_ok1 k (by omega) (by omega) j (by omega)
          refine wp_cond_true (Hz.ev (x := .tmp 67) rfl) ?_
          refine wp_skip ?_
          refine hK15 _ _ ?_; clear hK15; try clear K15
          refine wp_seq_k (fun K16 hK16 => ?_)
          refine wp_block ?_
          refine wp_region_lit ?_
          refine goCh Hz (.move rfl <| .move rfl <| .buildG rfl zc55rc ps55rc rfl <| .nil) ?_
          clear Hz Az; intro Az Hz
          refine wpList_plain rfl (fun K hK => ?_)
          refine e_call Hz Tryz.func23 rfl rfl rfl rfl (rRecvVoteOk_s _ R (votN (B2 1 k) j) (nilP p9) 1 ((j : Int) + 1) 0 1 0 0 0 true _ hrk.1 hrk.2.1.symm hrk.2.2.1.symm (by rw [hrk.2.2.1]; omega) hrk.2.2.2.symm (m79.into [(1, 1), (2, 2), (3, 3), (4, 4), (5, 5), (6, 6), (7, 7), (8, 8)] (by decide) rfl)) ?_
          rintro e w87 ⟨p2, o2, rfl, hm87⟩
          have mx87 := m79.back hm87 [(1, 1), (2, 2), (3, 3), (4, 4), (5, 5), (6, 6), (7, 7), (8, 8), (11, 11), (12, 12)] (by decide); clear hm87 m79
          have m87 : MemOk _ _ [(1, _), (2, _), (3, _), (4, _), (5, _), (6, _), (7, _), (8, _), (11, _), (12, _)] _ := mx87.only [1, 2, 3, 4, 5, 6, 7, 8, 11, 12]; clear mx87
          refine ⟨_, rfl, ?_⟩; clear Hz Az; intro Az Hz
          refine hK _ _ ?_; clear hK K
          refine wpList_nil ?_
          refine hK16 _ _ ?_; clear hK16; try clear K16
          replace Hz : Has 174 [(1, _), (2, _), (7, _), (10, _), (13, _)] Az := Hz.only [1, 2, 7, 10, 13]
          refine wp_region_lit ?_
          refine goCh Hz (.move rfl <| .add rfl rfl (r := ((j + 1 : Nat) : Int) + 1) (by rw [IntWalk.i64_in _ (by omega)]; omega) <| .assign rfl <| .nil) ?_
          clear Hz Az; intro Az Hz
          refine wpList_nil ?_
          show ∃ n', n' < _ ∧ _
          exact ⟨(k - 1) - (j + 1), by omega, j + 1, p2, by omega, rfl, Hz.only [1, 2, 7, 10, 13], m87.only [1, 2, 3, 4, 5, 6, 7, 8]⟩
         ·
          clear Hz; intro hb83 Hz
          try simp only [Q1x, Q2x, Q3x, Q4x, Q5x, Q6x, Q7x, Q8x, Q9x, Q0x, Qax, Qbx] at hb83
          obtain rfl : j = k - 1 := by omega
          refine wp_cond_false (Hz.ev (x := .tmp 67) rfl) ?_
          refine wp_exit ?_
          refine hK14 _ _ ?_; clear hK14; try clear K14
          refine regS Hz (.assign rfl <| .nil) ?_
          clear Hz Az; intro Az Hz
          refine wp_seq_k (fun K17 hK17 => ?_)
          refine regS Hz (.assign rfl <| .nil) ?_
          clear Hz Az; intro Az Hz
          refine wp_block ?_
          refine wp_loop_ghost (fun g a w => ∃ (j : Nat) (p9 : RP), j ≤ (q % 6) ∧ g = (q % 6) - j ∧ Has 174 [(1, .slice pa1 yl.length ca1), (2, .int .u8 (q : Nat)), (7, .int .i64 (k : Nat)), (10, .pointer (some ⟨R, 0, none⟩)), (14, .int .i64 (((j : Nat) : Int) + 1)), (15, .int .i64 ((j : Nat)))] a ∧ MemOk (cx (fun _ => False) w0) w0 (rfM R (propN k j) (nilP p9)) w) ((q % 6)) ?_ ?_
          · exact ⟨0, p9, Nat.zero_le _, rfl, Hz.only [1, 2, 7, 10, 14, 15], m79.only [1, 2, 3, 4, 5, 6, 7, 8]⟩
          ·
           clear Hz m79
           rintro g Az w95 ⟨j, p9, hjl, hg, Hz, m95⟩
           refine wp_seq_k (fun K18 hK18 => ?_)
           refine regS Hz (.move rfl <| .move rfl <| .rem rfl rfl (r := ((q % 6 : Nat) : Int)) (by omega) (by rw [Int.tmod_eq_emod_of_nonneg (by omega)]; omega) <| .conv rfl Tryz.underlying5 Tryz.underlying3 (r := ((q % 6 : Nat) : Int)) (IntWalk.i64_in _ (by omega)) <| .lss rfl rfl <| .nil) ?_
           clear Hz Az; intro Az Hz
           refine bool_cases Hz (t := 78) rfl ?_ ?_
           ·
            clear Hz; intro hb101 Hz
            try simp only [Q1x, Q2x, Q3x, Q4x, Q5x, Q6x, Q7x, Q8x, Q9x, Q0x, Qax, Qbx] at hb101
            have hj : j < (q % 6) := by omega
            have hP := prop_out (k := k) (j := j) (by omega) (by omega) (by omega)
            refine wp_cond_true (Hz.ev (x := .tmp 78) rfl) ?_
            refine wp_skip ?_
            refine hK18 _ _ ?_; clear hK18; try clear K18
            refine wp_seq_k (fun K19 hK19 => ?_)
            refine wp_block ?_
            refine wp_seq_k (fun K20 hK20 => ?_)
            refine wp_region_lit ?_
            refine goCh Hz (.move rfl <| .move rfl <| .conv rfl Tryz.underlying3 Tryz.underlying5 (r := (j : Int)) (IntWalk.u8_in _ (by omega)) <| .nil) ?_
            clear Hz Az; intro Az Hz
            refine wpList_plain rfl (fun K hK => ?_)
            refine e_litN Hz m95 500 (k := .u8) rfl rfl Tryz.underlying27 inf5rc rfl rfl rfl rfl ?_
            clear Hz Az m95; intro g108 Az w109 Hz m109
            refine hK _ _ ?_; clear hK K
            have m110 := m109.freezeN 500 rfl; clear m109
            refine wpList_plain rfl (fun K hK => ?_)
            refine e_call Hz Tryz.func31 rfl rfl rfl rfl (rPropose_s _ R (propN k j) (nilP p9) 1 [(j : Int)] _ _ _ hP.ok hP.ro (by decide) (by simp) (by intro z hz; rw [List.mem_singleton] at hz; omega) hP.nx (m110.into [(9, 500), (1, 1), (2, 2), (3, 3), (4, 4), (5, 5), (6, 6), (7, 7), (8, 8)] (by decide) rfl)) ?_
            rintro e w111 ⟨p2, o2, rfl, hm111⟩
            have mx111 := m110.back hm111 [(1, 1), (2, 2), (3, 3), (4, 4), (5, 5), (6, 6), (7, 7), (8, 8), (11, 11), (12, 12)] (by decide); clear hm111 m110
            have m111 : MemOk _ _ [(1, _), (2, _), (3, _), (4, _), (5, _), (6, _), (7, _), (8, _), (11, _), (12, _)] _ := mx111.only [1, 2, 3, 4, 5, 6, 7, 8, 11, 12]; clear mx111
            refine ⟨_, rfl, ?_⟩; clear Hz Az; intro Az Hz
            refine hK _ _ ?_; clear hK K
            refine goCh Hz (.move rfl <| .extract rfl rfl <| .extract rfl rfl <| .extract rfl rfl <| .nil) ?_
            clear Hz Az; intro Az Hz
            refine wpList_plain rfl (fun K hK => ?_)
            refine e_alloc Hz m111 501 zc46rc rfl ?_
            clear Hz Az m111; intro g117 Az w118 Hz m118 hB118 hg118
            clear hB118 hg118
            refine hK _ _ ?_; clear hK K
            refine wpList_plain rfl (fun K hK => ?_)
            refine e_storeW Hz m118 501 rfl rfl rfl rfl rfl sz46rc ?_
            clear m118; intro w119 m119 hB119
            clear hB119
            refine hK _ _ ?_; clear hK K
            refine goCh Hz (.assign rfl <| .assign rfl <| .nil) ?_
            clear Hz Az; intro Az Hz
            refine wpList_nil ?_
            refine hK20 _ _ ?_; clear hK20; try clear K20
            replace Hz : Has 174 [(1, _), (2, _), (7, _), (10, _), (14, _), (15, _), (17, _), (18, _)] Az := Hz.only [1, 2, 7, 10, 14, 15, 17, 18]
            refine regS Hz (.move rfl <| .add rfl rfl (r := ((j + 1 : Nat) : Int) + 1) (by rw [IntWalk.i64_in _ (by omega)]; omega) <| .assign rfl <| .nil) ?_
            clear Hz Az; intro Az Hz
            refine regS Hz (.move rfl <| .not rfl <| .move rfl <| .moveZ rfl <| .moveZ rfl <| .neqZ rfl rfl <| .pickF rfl rfl <| .nil) ?_
            clear Hz Az; intro Az Hz
            refine bool_cases Hz (t := 98) rfl ?_ ?_
            · intro hb _; exact absurd hb (fun h9 => of_decide_eq_true h9 (by rw [hP.la]; omega))
            clear Hz; intro _ Hz
            refine wp_cond_false (Hz.ev (x := .tmp 98) rfl) ?_
            refine wp_skip ?_
            refine hK19 _ _ ?_; clear hK19; try clear K19
            replace Hz : Has 174 [(1, _), (2, _), (7, _), (10, _), (14, _), (15, _)] Az := Hz.only [1, 2, 7, 10, 14, 15]
            refine wp_region_lit ?_
            refine goCh Hz (.move rfl <| .add rfl rfl (r := ((j + 1 : Nat) : Int)) (by rw [IntWalk.i64_in _ (by omega)]; omega) <| .assign rfl <| .nil) ?_
            clear Hz Az; intro Az Hz
            refine wpList_nil ?_
            show ∃ n', n' < _ ∧ _
            exact ⟨(q % 6) - (j + 1), by omega, j + 1, p2, by omega, rfl, Hz.only [1, 2, 7, 10, 14, 15], m119.only [1, 2, 3, 4, 5, 6, 7, 8]⟩
           ·
            clear Hz; intro hb101 Hz
            try simp only [Q1x, Q2x, Q3x, Q4x, Q5x, Q6x, Q7x, Q8x, Q9x, Q0x, Qax, Qbx] at hb101
            obtain rfl : j = (q % 6) := by omega
            have hP := prop_out (k := k) (j := (q % 6)) (by omega) (by omega) (by omega)
            have hz0 : propN k (q % 6) = AK k (q % 6) 0 0 0 0 (WN k [((q % 6 : Nat) : Int) + 1, 0, 0, 0, 0] ((q % 6) + 1)) := (AK_zero hP).trans (by rw [WN_zero (by omega) (by omega)])
            refine wp_cond_false (Hz.ev (x := .tmp 78) rfl) ?_
            refine wp_exit ?_
            refine hK17 _ _ ?_; clear hK17; try clear K17
            refine wp_seq_k (fun K21 hK21 => ?_)
            refine wp_region_lit ?_
            refine wpList_plain rfl (fun K hK => ?_)
            refine e_alloc Hz m95 500 zc72rc rfl ?_
            clear Hz Az m95; intro g138 Az w139 Hz m139 hB139 hg139
            clear hB139 hg139
            refine hK _ _ ?_; clear hK K
            refine wpList_nil ?_
            refine hK21 _ _ ?_; clear hK21; try clear K21
            refine wp_seq_k (fun K22 hK22 => ?_)
            refine wp_region_lit ?_
            refine goCh Hz (.move rfl <| .c rfl (fun _ h_ => y_idxA h_ rfl rfl Tryz.underlying72 sz3rc 0 rfl (by decide) (off := 0) rfl) <| .nil) ?_
            clear Hz Az; intro Az Hz
            refine wpList_plain rfl (fun K hK => ?_)
            refine e_store1 Hz m139 500 rfl rfl rfl rfl rfl sz3rc (by dsimp only [List.set] <;> rfl) ?_
            clear m139; intro w144 m144 hB144
            clear hB144
            refine hK _ _ ?_; clear hK K
            refine wpList_nil ?_
            refine hK22 _ _ ?_; clear hK22; try clear K22
            refine wp_seq_k (fun K23 hK23 => ?_)
            replace Hz : Has 174 [(1, _), (2, _), (7, _), (10, _), (14, _), (15, _), (19, _)] Az := Hz.only [1, 2, 7, 10, 14, 15, 19]
            refine regS Hz (.assign rfl <| .nil) ?_
            clear Hz Az; intro Az Hz
            refine wp_block ?_
            refine wp_loop_ghost (fun g a w => ∃ (i : Nat) (Bg : Nat) (p9 : RP) (z1 z2 z3 z4 : Int), i ≤ yl.length ∧ g = yl.length - i ∧ ((0 ≤ z1 ∧ z1 ≤ ((q % 6 : Nat) : Int) + 1) ∧ (0 ≤ z2 ∧ z2 ≤ ((q % 6 : Nat) : Int) + 1) ∧ (0 ≤ z3 ∧ z3 ≤ ((q % 6 : Nat) : Int) + 1) ∧ (0 ≤ z4 ∧ z4 ≤ ((q % 6 : Nat) : Int) + 1)) ∧ Has 174 [(1, .slice pa1 yl.length ca1), (7, .int .i64 (k : Nat)), (10, .pointer (some ⟨R, 0, none⟩)), (14, .int .i64 (((q % 6 : Nat) : Int) + 1)), (19, .pointer (some ⟨Bg, 0, none⟩)), (20, .int .i64 (i : Nat))] a ∧ MemOk (cx (fun _ => False) w0) w0 ((60, .box Bg 72 [.int .i64 (((q % 6 : Nat) : Int) + 1), .int .i64 z1, .int .i64 z2, .int .i64 z3, .int .i64 z4, .int .i64 0, .int .i64 0, .int .i64 0]) :: rfM R (AK k (q % 6) z1 z2 z3 z4 (WN k [((q % 6 : Nat) : Int) + 1, z1, z2, z3, z4] ((q % 6) + 1))) (nilP p9)) w) (yl.length) ?_ ?_
            · rw [hz0] at m144
              exact ⟨0, _, p9, 0, 0, 0, 0, Nat.zero_le _, rfl, ⟨by omega, by omega, by omega, by omega⟩, Hz.only [1, 7, 10, 14, 19, 20], m144.ren [(60, 500), (1, 1), (2, 2), (3, 3), (4, 4), (5, 5), (6, 6), (7, 7), (8, 8)] (by decide)⟩
            ·
             clear Hz m144
             rintro g Az w147 ⟨i, Bg, p9, z1, z2, z3, z4, hil, hgi, hzb, Hz, m147⟩
             refine wp_seq_k (fun K24 hK24 => ?_)
             refine regS Hz (.move rfl <| .move rfl <| .len rfl Tryz.underlying27 <| .lss rfl rfl <| .nil) ?_
             clear Hz Az; intro Az Hz
             refine bool_cases Hz (t := 104) rfl ?_ ?_
             ·
              clear Hz; intro hb152 Hz
              try simp only [Q1x, Q2x, Q3x, Q4x, Q5x, Q6x, Q7x, Q8x, Q9x, Q0x, Qax, Qbx] at hb152
              have hi : i < yl.length := by omega
              have hyb := hyv i hi
              obtain ⟨f, hf⟩ : ∃ f : Nat, (f : Int) = 1 + yl.getD i 0 % ((k : Int) - 1) := ⟨(1 + yl.getD i 0 % ((k : Int) - 1)).toNat, by have := Int.emod_nonneg (yl.getD i 0) (show (k : Int) - 1 ≠ 0 by omega); omega⟩
              have hfb : 1 ≤ f ∧ f < k := by
                have := Int.emod_nonneg (yl.getD i 0) (show (k : Int) - 1 ≠ 0 by omega)
                have := Int.emod_lt_of_pos (yl.getD i 0) (show (0 : Int) < (k : Int) - 1 by omega)
                omega
              obtain ⟨ti, hti⟩ : ∃ n : Nat, (n : Int) = yl.getD i 0 / 8 % (((q % 6 : Nat) : Int) + 1 + 1) := ⟨(yl.getD i 0 / 8 % (((q % 6 : Nat) : Int) + 1 + 1)).toNat, by have := Int.emod_nonneg (yl.getD i 0 / 8) (show ((q % 6 : Nat) : Int) + 1 + 1 ≠ 0 by omega); omega⟩
              have htb : (ti : Int) ≤ ((q % 6 : Nat) : Int) + 1 := by have := Int.emod_lt_of_pos (yl.getD i 0 / 8) (show (0 : Int) < ((q % 6 : Nat) : Int) + 1 + 1 by omega); omega
              have hof : (othS (AK k (q % 6) z1 z2 z3 z4 (WN k [((q % 6 : Nat) : Int) + 1, z1, z2, z3, z4] ((q % 6) + 1)))).contains (f : Int) = true := (hP.ot f (by omega)).resolve_left (by omega)
              have hmb : (0 : Int) ≤ [((q % 6 : Nat) : Int) + 1, z1, z2, z3, z4].getD f 0 ∧ [((q % 6 : Nat) : Int) + 1, z1, z2, z3, z4].getD f 0 ≤ 1000000000000000 := by
                rcases (show f = 1 ∨ f = 2 ∨ f = 3 ∨ f = 4 by omega) with rfl | rfl | rfl | rfl <;> simp <;> omega
              refine wp_cond_true (Hz.ev (x := .tmp 104) rfl) ?_
              refine wp_skip ?_
              refine hK24 _ _ ?_; clear hK24; try clear K24
              refine wp_seq_k (fun K25 hK25 => ?_)
              refine wp_block ?_
              refine wp_seq_k (fun K26 hK26 => ?_)
              have hC26 : ∀ (a : Act) (w : World), (Has 174 [(1, .slice pa1 yl.length ca1), (7, .int .i64 (k : Nat)), (10, .pointer (some ⟨R, 0, none⟩)), (14, .int .i64 (((q % 6 : Nat) : Int) + 1)), (19, .pointer (some ⟨Bg, 0, none⟩)), (20, .int .i64 (i : Nat)), (21, .int .i64 (f : Nat)), (22, .int .i64 (ti : Nat))] a ∧ MemOk (cx (fun _ => False) w0) w0 ((60, .box Bg 72 [.int .i64 (((q % 6 : Nat) : Int) + 1), .int .i64 z1, .int .i64 z2, .int .i64 z3, .int .i64 z4, .int .i64 0, .int .i64 0, .int .i64 0]) :: rfM R (AK k (q % 6) z1 z2 z3 z4 (WN k [((q % 6 : Nat) : Int) + 1, z1, z2, z3, z4] ((q % 6) + 1))) (nilP p9)) w) → K26 a w := by
                clear Hz m147
                rintro Az w153 ⟨Hz, m153⟩
                refine hK26 _ _ ?_; clear hK26; try clear K26
                refine wp_seq_k (fun K27 hK27 => ?_)
                have hC27 : ∀ (a : Act) (w : World), (∃ (p7 : RP), Has 174 [(1, .slice pa1 yl.length ca1), (7, .int .i64 (k : Nat)), (10, .pointer (some ⟨R, 0, none⟩)), (14, .int .i64 (((q % 6 : Nat) : Int) + 1)), (19, .pointer (some ⟨Bg, 0, none⟩)), (20, .int .i64 (i : Nat)), (21, .int .i64 (f : Nat)), (22, .int .i64 (ti : Nat))] a ∧ MemOk (cx (fun _ => False) w0) w0 ((60, .box Bg 72 [.int .i64 (((q % 6 : Nat) : Int) + 1), .int .i64 z1, .int .i64 z2, .int .i64 z3, .int .i64 z4, .int .i64 0, .int .i64 0, .int .i64 0]) :: rfM R (AK k (q % 6) (U f (ti : Int) 1 z1) (U f (ti : Int) 2 z2) (U f (ti : Int) 3 z3) (U f (ti : Int) 4 z4) (WN k [((q % 6 : Nat) : Int) + 1, (U f (ti : Int) 1 z1), (U f (ti : Int) 2 z2), (U f (ti : Int) 3 z3), (U f (ti : Int) 4 z4)] ((q % 6) + 1))) (nilP p7)) w) → K27 a w := by
                  clear Hz m153
                  rintro Az w154 ⟨p7, Hz, m154⟩
                  refine hK27 _ _ ?_; clear hK27; try clear K27
                  refine wp_seq_k (fun K28 hK28 => ?_)
                  have hC28 : ∀ (a : Act) (w : World), (∃ (q1 q2 q3 q4 : Int), ((0 ≤ q1 ∧ q1 ≤ ((q % 6 : Nat) : Int) + 1) ∧ (0 ≤ q2 ∧ q2 ≤ ((q % 6 : Nat) : Int) + 1) ∧ (0 ≤ q3 ∧ q3 ≤ ((q % 6 : Nat) : Int) + 1) ∧ (0 ≤ q4 ∧ q4 ≤ ((q % 6 : Nat) : Int) + 1)) ∧ Has 174 [(1, .slice pa1 yl.length ca1), (7, .int .i64 (k : Nat)), (10, .pointer (some ⟨R, 0, none⟩)), (14, .int .i64 (((q % 6 : Nat) : Int) + 1)), (19, .pointer (some ⟨Bg, 0, none⟩)), (20, .int .i64 (i : Nat))] a ∧ MemOk (cx (fun _ => False) w0) w0 ((60, .box Bg 72 [.int .i64 (((q % 6 : Nat) : Int) + 1), .int .i64 q1, .int .i64 q2, .int .i64 q3, .int .i64 q4, .int .i64 0, .int .i64 0, .int .i64 0]) :: rfM R (AK k (q % 6) q1 q2 q3 q4 (WN k [((q % 6 : Nat) : Int) + 1, q1, q2, q3, q4] ((q % 6) + 1))) (nilP p7)) w) → K28 a w := by
                    clear Hz m154
                    rintro Az w155 ⟨q1, q2, q3, q4, hqb, Hz, m155⟩
                    refine hK28 _ _ ?_; clear hK28; try clear K28
                    refine regS Hz (.assign rfl <| .nil) ?_
                    clear Hz Az; intro Az Hz
                    refine wp_seq_k (fun K29 hK29 => ?_)
                    refine regS Hz (.assign rfl <| .nil) ?_
                    clear Hz Az; intro Az Hz
                    refine wp_block ?_
                    refine wp_loop_ghost (fun g a w => ∃ (j : Nat), j ≤ (q % 6) + 1 ∧ g = (q % 6) + 1 - j ∧ Has 174 [(1, .slice pa1 yl.length ca1), (7, .int .i64 (k : Nat)), (10, .pointer (some ⟨R, 0, none⟩)), (14, .int .i64 (((q % 6 : Nat) : Int) + 1)), (19, .pointer (some ⟨Bg, 0, none⟩)), (20, .int .i64 (i : Nat)), (23, .int .i64 (WN k [((q % 6 : Nat) : Int) + 1, q1, q2, q3, q4] j)), (24, .int .i64 ((j : Nat) + 1))] a ∧ MemOk (cx (fun _ => False) w0) w0 ((60, .box Bg 72 [.int .i64 (((q % 6 : Nat) : Int) + 1), .int .i64 q1, .int .i64 q2, .int .i64 q3, .int .i64 q4, .int .i64 0, .int .i64 0, .int .i64 0]) :: rfM R (AK k (q % 6) q1 q2 q3 q4 (WN k [((q % 6 : Nat) : Int) + 1, q1, q2, q3, q4] ((q % 6) + 1))) (nilP p7)) w) ((q % 6) + 1) ?_ ?_
                    · exact ⟨0, Nat.zero_le _, rfl, Hz.only [1, 7, 10, 14, 19, 20, 23, 24], m155.ren [(60, 60), (1, 1), (2, 2), (3, 3), (4, 4), (5, 5), (6, 6), (7, 7), (8, 8)] (by decide)⟩
                    ·
                     clear Hz m155
                     rintro g Az w158 ⟨j, hjl, hgj, Hz, m158⟩
                     refine wp_seq_k (fun K30 hK30 => ?_)
                     refine regS Hz (.move rfl <| .move rfl <| .leq rfl rfl <| .nil) ?_
                     clear Hz Az; intro Az Hz
                     refine bool_cases Hz (t := 139) rfl ?_ ?_
                     ·
                      clear Hz; intro hb162 Hz
                      try simp only [Q1x, Q2x, Q3x, Q4x, Q5x, Q6x, Q7x, Q8x, Q9x, Q0x, Qax, Qbx] at hb162
                      have hj9 : j < (q % 6) + 1 := by omega
                      refine wp_cond_true (Hz.ev (x := .tmp 139) rfl) ?_
                      refine wp_skip ?_
                      refine hK30 _ _ ?_; clear hK30; try clear K30
                      refine wp_seq_k (fun K31 hK31 => ?_)
                      have hC31 : ∀ (a : Act) (w : World), (Has 174 [(1, .slice pa1 yl.length ca1), (7, .int .i64 (k : Nat)), (10, .pointer (some ⟨R, 0, none⟩)), (14, .int .i64 (((q % 6 : Nat) : Int) + 1)), (19, .pointer (some ⟨Bg, 0, none⟩)), (20, .int .i64 (i : Nat)), (23, .int .i64 (WN k [((q % 6 : Nat) : Int) + 1, q1, q2, q3, q4] (j + 1))), (24, .int .i64 ((j : Nat) + 1))] a ∧ MemOk (cx (fun _ => False) w0) w0 ((60, .box Bg 72 [.int .i64 (((q % 6 : Nat) : Int) + 1), .int .i64 q1, .int .i64 q2, .int .i64 q3, .int .i64 q4, .int .i64 0, .int .i64 0, .int .i64 0]) :: rfM R (AK k (q % 6) q1 q2 q3 q4 (WN k [((q % 6 : Nat) : Int) + 1, q1, q2, q3, q4] ((q % 6) + 1))) (nilP p7)) w) → K31 a w := by
                        clear Hz m158
                        rintro Az w163 ⟨Hz, m163⟩
                        refine hK31 _ _ ?_; clear hK31; try clear K31
                        refine wp_region_lit ?_
                        refine goCh Hz (.move rfl <| .add rfl rfl (r := ((j + 1 : Nat) : Int) + 1) (by rw [IntWalk.i64_in _ (by omega)]; omega) <| .assign rfl <| .nil) ?_
                        clear Hz Az; intro Az Hz
                        refine wpList_nil ?_
                        show ∃ n', n' < _ ∧ _
                        exact ⟨(q % 6) + 1 - (j + 1), by omega, j + 1, by omega, rfl, Hz.only [1, 7, 10, 14, 19, 20, 23, 24], m163.only [60, 1, 2, 3, 4, 5, 6, 7, 8]⟩
                      refine wp_block ?_
                      refine regS Hz (.assign rfl <| .nil) ?_
                      clear Hz Az; intro Az Hz
                      refine wp_seq_k (fun K32 hK32 => ?_)
                      refine regS Hz (.assign rfl <| .nil) ?_
                      clear Hz Az; intro Az Hz
                      refine wp_block ?_
                      refine wp_loop_ghost (fun g a w => ∃ (m : Nat), m ≤ k ∧ g = k - m ∧ Has 174 [(1, .slice pa1 yl.length ca1), (7, .int .i64 (k : Nat)), (10, .pointer (some ⟨R, 0, none⟩)), (14, .int .i64 (((q % 6 : Nat) : Int) + 1)), (19, .pointer (some ⟨Bg, 0, none⟩)), (20, .int .i64 (i : Nat)), (23, .int .i64 (WN k [((q % 6 : Nat) : Int) + 1, q1, q2, q3, q4] j)), (24, .int .i64 ((j : Nat) + 1)), (25, .int .i64 (cnt ((j : Int) + 1) ([((q % 6 : Nat) : Int) + 1, q1, q2, q3, q4].take m) : Nat)), (26, .int .i64 (m : Nat))] a ∧ MemOk (cx (fun _ => False) w0) w0 ((60, .box Bg 72 [.int .i64 (((q % 6 : Nat) : Int) + 1), .int .i64 q1, .int .i64 q2, .int .i64 q3, .int .i64 q4, .int .i64 0, .int .i64 0, .int .i64 0]) :: rfM R (AK k (q % 6) q1 q2 q3 q4 (WN k [((q % 6 : Nat) : Int) + 1, q1, q2, q3, q4] ((q % 6) + 1))) (nilP p7)) w) (k) ?_ ?_
                      · exact ⟨0, Nat.zero_le _, rfl, Hz.only [1, 7, 10, 14, 19, 20, 23, 24, 25, 26], m158.ren [(60, 60), (1, 1), (2, 2), (3, 3), (4, 4), (5, 5), (6, 6), (7, 7), (8, 8)] (by decide)⟩
                      ·
                       clear Hz m158
                       rintro g Az w169 ⟨m, hml, hgm, Hz, m169⟩
                       refine wp_seq_k (fun K33 hK33 => ?_)
                       refine regS Hz (.move rfl <| .move rfl <| .lss rfl rfl <| .nil) ?_
                       clear Hz Az; intro Az Hz
                       refine bool_cases Hz (t := 144) rfl ?_ ?_
                       ·
                        clear Hz; intro hb173 Hz
                        try simp only [Q1x, Q2x, Q3x, Q4x, Q5x, Q6x, Q7x, Q8x, Q9x, Q0x, Qax, Qbx] at hb173
                        have hm9 : m < k := by omega
                        refine wp_cond_true (Hz.ev (x := .tmp 144) rfl) ?_
                        refine wp_skip ?_
                        refine hK33 _ _ ?_; clear hK33; try clear K33
                        refine wp_seq_k (fun K34 hK34 => ?_)
                        have hC34 : ∀ (a : Act) (w : World), (Has 174 [(1, .slice pa1 yl.length ca1), (7, .int .i64 (k : Nat)), (10, .pointer (some ⟨R, 0, none⟩)), (14, .int .i64 (((q % 6 : Nat) : Int) + 1)), (19, .pointer (some ⟨Bg, 0, none⟩)), (20, .int .i64 (i : Nat)), (23, .int .i64 (WN k [((q % 6 : Nat) : Int) + 1, q1, q2, q3, q4] j)), (24, .int .i64 ((j : Nat) + 1)), (25, .int .i64 (cnt ((j : Int) + 1) ([((q % 6 : Nat) : Int) + 1, q1, q2, q3, q4].take (m + 1)) : Nat)), (26, .int .i64 (m : Nat))] a ∧ MemOk (cx (fun _ => False) w0) w0 ((60, .box Bg 72 [.int .i64 (((q % 6 : Nat) : Int) + 1), .int .i64 q1, .int .i64 q2, .int .i64 q3, .int .i64 q4, .int .i64 0, .int .i64 0, .int .i64 0]) :: rfM R (AK k (q % 6) q1 q2 q3 q4 (WN k [((q % 6 : Nat) : Int) + 1, q1, q2, q3, q4] ((q % 6) + 1))) (nilP p7)) w) → K34 a w := by
                          clear Hz m169
                          rintro Az w174 ⟨Hz, m174⟩
                          refine hK34 _ _ ?_; clear hK34; try clear K34
                          refine wp_region_lit ?_
                          refine goCh Hz (.move rfl <| .add rfl rfl (r := ((m + 1 : Nat) : Int)) (by rw [IntWalk.i64_in _ (by omega)]; omega) <| .assign rfl <| .nil) ?_
                          clear Hz Az; intro Az Hz
                          refine wpList_nil ?_
                          show ∃ n', n' < _ ∧ _
                          exact ⟨k - (m + 1), by omega, m + 1, by omega, rfl, Hz.only [1, 7, 10, 14, 19, 20, 23, 24, 25, 26], m174.only [60, 1, 2, 3, 4, 5, 6, 7, 8]⟩
                        refine wp_block ?_
                        refine wp_seq_k (fun K35 hK35 => ?_)
                        have hC35 : ∀ (a : Act) (w : World), (Has 174 [(1, .slice pa1 yl.length ca1), (7, .int .i64 (k : Nat)), (10, .pointer (some ⟨R, 0, none⟩)), (14, .int .i64 (((q % 6 : Nat) : Int) + 1)), (19, .pointer (some ⟨Bg, 0, none⟩)), (20, .int .i64 (i : Nat)), (23, .int .i64 (WN k [((q % 6 : Nat) : Int) + 1, q1, q2, q3, q4] j)), (24, .int .i64 ((j : Nat) + 1)), (25, .int .i64 (cnt ((j : Int) + 1) ([((q % 6 : Nat) : Int) + 1, q1, q2, q3, q4].take m) : Nat)), (26, .int .i64 (m : Nat)), (151, .bool (decide ((j : Int) + 1 ≤ [((q % 6 : Nat) : Int) + 1, q1, q2, q3, q4].getD m 0)))] a ∧ MemOk (cx (fun _ => False) w0) w0 ((60, .box Bg 72 [.int .i64 (((q % 6 : Nat) : Int) + 1), .int .i64 q1, .int .i64 q2, .int .i64 q3, .int .i64 q4, .int .i64 0, .int .i64 0, .int .i64 0]) :: rfM R (AK k (q % 6) q1 q2 q3 q4 (WN k [((q % 6 : Nat) : Int) + 1, q1, q2, q3, q4] ((q % 6) + 1))) (nilP p7)) w) → K35 a w := by
                          clear Hz m169
                          rintro Az w178 ⟨Hz, m178⟩
                          refine hK35 _ _ ?_; clear hK35; try clear K35
                          refine bool_cases Hz (t := 151) rfl ?_ ?_
                          ·
                           clear Hz; intro hb179 Hz
                           try simp only [Q1x, Q2x, Q3x, Q4x, Q5x, Q6x, Q7x, Q8x, Q9x, Q0x, Qax, Qbx] at hb179
                           refine wp_cond_true (Hz.ev (x := .tmp 151) rfl) ?_
                           refine wp_region_lit ?_
                           refine goCh Hz (.move rfl <| .add rfl rfl (IntWalk.i64_in _ (by have := cnt_take_le ((j : Int) + 1) [((q % 6 : Nat) : Int) + 1, q1, q2, q3, q4] m; omega)) <| .assign rfl <| .nil) ?_
                           clear Hz Az; intro Az Hz
                           refine wpList_nil ?_
                           have hc8 : cnt ((j : Int) + 1) ([((q % 6 : Nat) : Int) + 1, q1, q2, q3, q4].take m) + 1 = cnt ((j : Int) + 1) ([((q % 6 : Nat) : Int) + 1, q1, q2, q3, q4].take (m + 1)) := cnt_take_yes (by simp; omega) hb179
                           rw [show ((cnt ((j : Int) + 1) ([((q % 6 : Nat) : Int) + 1, q1, q2, q3, q4].take m) : Nat) : Int) + 1 = ((cnt ((j : Int) + 1) ([((q % 6 : Nat) : Int) + 1, q1, q2, q3, q4].take (m + 1)) : Nat) : Int) from by omega] at Hz
                           show K34 _ _
                           exact hC34 _ _ ⟨Hz.only [1, 7, 10, 14, 19, 20, 23, 24, 25, 26], m178.only [60, 1, 2, 3, 4, 5, 6, 7, 8]⟩
                          ·
                           clear Hz; intro hb179 Hz
                           try simp only [Q1x, Q2x, Q3x, Q4x, Q5x, Q6x, Q7x, Q8x, Q9x, Q0x, Qax, Qbx] at hb179
                           refine wp_cond_false (Hz.ev (x := .tmp 151) rfl) ?_
                           refine wp_skip ?_
                           have hc8 : cnt ((j : Int) + 1) ([((q % 6 : Nat) : Int) + 1, q1, q2, q3, q4].take m) = cnt ((j : Int) + 1) ([((q % 6 : Nat) : Int) + 1, q1, q2, q3, q4].take (m + 1)) := cnt_take_no (by simp; omega) hb179
                           rw [hc8] at Hz
                           show K34 _ _
                           exact hC34 _ _ ⟨Hz.only [1, 7, 10, 14, 19, 20, 23, 24, 25, 26], m178.only [60, 1, 2, 3, 4, 5, 6, 7, 8]⟩
                        rcases (show m = 0 ∨ m = 1 ∨ m = 2 ∨ m = 3 ∨ m = 4 by omega) with rfl | rfl | rfl | rfl | rfl
                        ·
                         refine wp_region_lit ?_
                         refine goCh Hz (.move rfl <| .c rfl (fun _ h_ => y_idxA h_ rfl rfl Tryz.underlying72 sz3rc 0 rfl (by decide) (off := 0) rfl) <| .loadB1 m169 (i := 60) rfl rfl rfl Tryz.underlying3 rfl <| .move rfl <| .geq rfl rfl <| .nil) ?_
                         clear Hz Az; intro Az Hz
                         refine wpList_nil ?_
                         show K35 _ _
                         exact hC35 _ _ ⟨Hz.only [1, 7, 10, 14, 19, 20, 23, 24, 25, 26, 151], m169.only [60, 1, 2, 3, 4, 5, 6, 7, 8]⟩
                        ·
                         refine wp_region_lit ?_
                         refine goCh Hz (.move rfl <| .c rfl (fun _ h_ => y_idxA h_ rfl rfl Tryz.underlying72 sz3rc 1 rfl (by decide) (off := 1) rfl) <| .loadB1 m169 (i := 60) rfl rfl rfl Tryz.underlying3 rfl <| .move rfl <| .geq rfl rfl <| .nil) ?_
                         clear Hz Az; intro Az Hz
                         refine wpList_nil ?_
                         show K35 _ _
                         exact hC35 _ _ ⟨Hz.only [1, 7, 10, 14, 19, 20, 23, 24, 25, 26, 151], m169.only [60, 1, 2, 3, 4, 5, 6, 7, 8]⟩
                        ·
                         refine wp_region_lit ?_
                         refine goCh Hz (.move rfl <| .c rfl (fun _ h_ => y_idxA h_ rfl rfl Tryz.underlying72 sz3rc 2 rfl (by decide) (off := 2) rfl) <| .loadB1 m169 (i := 60) rfl rfl rfl Tryz.underlying3 rfl <| .move rfl <| .geq rfl rfl <| .nil) ?_
                         clear Hz Az; intro Az Hz
                         refine wpList_nil ?_
                         show K35 _ _
                         exact hC35 _ _ ⟨Hz.only [1, 7, 10, 14, 19, 20, 23, 24, 25, 26, 151], m169.only [60, 1, 2, 3, 4, 5, 6, 7, 8]⟩
                        ·
                         refine wp_region_lit ?_
                         refine goCh Hz (.move rfl <| .c rfl (fun _ h_ => y_idxA h_ rfl rfl Tryz.underlying72 sz3rc 3 rfl (by decide) (off := 3) rfl) <| .loadB1 m169 (i := 60) rfl rfl rfl Tryz.underlying3 rfl <| .move rfl <| .geq rfl rfl <| .nil) ?_
                         clear Hz Az; intro Az Hz
                         refine wpList_nil ?_
                         show K35 _ _
                         exact hC35 _ _ ⟨Hz.only [1, 7, 10, 14, 19, 20, 23, 24, 25, 26, 151], m169.only [60, 1, 2, 3, 4, 5, 6, 7, 8]⟩
                        ·
                         refine wp_region_lit ?_
                         refine goCh Hz (.move rfl <| .c rfl (fun _ h_ => y_idxA h_ rfl rfl Tryz.underlying72 sz3rc 4 rfl (by decide) (off := 4) rfl) <| .loadB1 m169 (i := 60) rfl rfl rfl Tryz.underlying3 rfl <| .move rfl <| .geq rfl rfl <| .nil) ?_
                         clear Hz Az; intro Az Hz
                         refine wpList_nil ?_
                         show K35 _ _
                         exact hC35 _ _ ⟨Hz.only [1, 7, 10, 14, 19, 20, 23, 24, 25, 26, 151], m169.only [60, 1, 2, 3, 4, 5, 6, 7, 8]⟩
                       ·
                        clear Hz; intro hb173 Hz
                        try simp only [Q1x, Q2x, Q3x, Q4x, Q5x, Q6x, Q7x, Q8x, Q9x, Q0x, Qax, Qbx] at hb173
                        obtain rfl : k = m := by omega
                        refine wp_cond_false (Hz.ev (x := .tmp 144) rfl) ?_
                        refine wp_exit ?_
                        refine hK32 _ _ ?_; clear hK32; try clear K32
                        refine regS Hz (.move rfl <| .mul rfl rfl (IntWalk.i64_in _ (by have := cnt_take_le ((j : Int) + 1) [((q % 6 : Nat) : Int) + 1, q1, q2, q3, q4] k; omega)) <| .move rfl <| .gtr rfl rfl <| .nil) ?_
                        clear Hz Az; intro Az Hz
                        refine bool_cases Hz (t := 157) rfl ?_ ?_
                        ·
                         clear Hz; intro hb212 Hz
                         try simp only [Q1x, Q2x, Q3x, Q4x, Q5x, Q6x, Q7x, Q8x, Q9x, Q0x, Qax, Qbx] at hb212
                         refine wp_cond_true (Hz.ev (x := .tmp 157) rfl) ?_
                         replace Hz : Has 174 [(1, _), (7, _), (10, _), (14, _), (19, _), (20, _), (23, _), (24, _), (25, _), (26, _), (157, _)] Az := Hz.only [1, 7, 10, 14, 19, 20, 23, 24, 25, 26, 157]
                         refine wp_region_lit ?_
                         refine goCh Hz (.move rfl <| .assign rfl <| .nil) ?_
                         clear Hz Az; intro Az Hz
                         refine wpList_nil ?_
                         have hw8 : ((j : Int) + 1) = WN k [((q % 6 : Nat) : Int) + 1, q1, q2, q3, q4] (j + 1) := (if_pos (by have := hb212; omega)).symm
                         rw [show (23, Value.int .i64 ((j : Int) + 1)) = (23, Value.int .i64 (WN k [((q % 6 : Nat) : Int) + 1, q1, q2, q3, q4] (j + 1))) from by rw [← hw8]] at Hz
                         show K31 _ _
                         exact hC31 _ _ ⟨Hz.only [1, 7, 10, 14, 19, 20, 23, 24], m169.only [60, 1, 2, 3, 4, 5, 6, 7, 8]⟩
                        ·
                         clear Hz; intro hb212 Hz
                         try simp only [Q1x, Q2x, Q3x, Q4x, Q5x, Q6x, Q7x, Q8x, Q9x, Q0x, Qax, Qbx] at hb212
                         refine wp_cond_false (Hz.ev (x := .tmp 157) rfl) ?_
                         refine wp_skip ?_
                         have hw8 : WN k [((q % 6 : Nat) : Int) + 1, q1, q2, q3, q4] j = WN k [((q % 6 : Nat) : Int) + 1, q1, q2, q3, q4] (j + 1) := (if_neg (by have := hb212; omega)).symm
                         rw [hw8] at Hz
                         show K31 _ _
                         exact hC31 _ _ ⟨Hz.only [1, 7, 10, 14, 19, 20, 23, 24], m169.only [60, 1, 2, 3, 4, 5, 6, 7, 8]⟩
                     ·
                      clear Hz; intro hb162 Hz
                      try simp only [Q1x, Q2x, Q3x, Q4x, Q5x, Q6x, Q7x, Q8x, Q9x, Q0x, Qax, Qbx] at hb162
                      obtain rfl : j = (q % 6) + 1 := by omega
                      refine wp_cond_false (Hz.ev (x := .tmp 139) rfl) ?_
                      refine wp_exit ?_
                      refine hK29 _ _ ?_; clear hK29; try clear K29
                      refine wp_seq_k (fun K36 hK36 => ?_)
                      refine wp_region_lit ?_
                      refine goCh Hz (.move rfl .nil) ?_
                      clear Hz Az; intro Az Hz
                      refine wpList_plain rfl (fun K hK => ?_)
                      refine e_call Hz Tryz.func26 rfl rfl rfl rfl (rCommit _ R (AK k (q % 6) q1 q2 q3 q4 (WN k [((q % 6 : Nat) : Int) + 1, q1, q2, q3, q4] ((q % 6) + 1))) (nilP p7) _ (m158.into [(1, 1), (2, 2), (3, 3), (4, 4), (5, 5), (6, 6), (7, 7), (8, 8)] (by decide) rfl)) ?_
                      rintro e w218 ⟨rfl, hm218⟩
                      have mx218 := m158.back hm218 [(1, 1), (2, 2), (3, 3), (4, 4), (5, 5), (6, 6), (7, 7), (8, 8)] (by decide); clear hm218 m158
                      have m218 : MemOk _ _ [(1, _), (2, _), (3, _), (4, _), (5, _), (6, _), (7, _), (8, _), (60, _)] _ := mx218.only [1, 2, 3, 4, 5, 6, 7, 8, 60]; clear mx218
                      refine ⟨_, rfl, ?_⟩; clear Hz Az; intro Az Hz
                      refine hK _ _ ?_; clear hK K
                      refine goCh Hz (.move rfl <| .neq rfl rfl <| .nil) ?_
                      clear Hz Az; intro Az Hz
                      refine wpList_nil ?_
                      refine hK36 _ _ ?_; clear hK36; try clear K36
                      refine bool_cases Hz (t := 162) rfl ?_ ?_
                      · intro hb _; exact absurd hb (fun h9 => of_decide_eq_true h9 rfl)
                      clear Hz; intro _ Hz
                      refine wp_cond_false (Hz.ev (x := .tmp 162) rfl) ?_
                      refine wp_skip ?_
                      refine hK25 _ _ ?_; clear hK25; try clear K25
                      replace Hz : Has 174 [(1, _), (7, _), (10, _), (14, _), (19, _), (20, _), (23, _), (24, _)] Az := Hz.only [1, 7, 10, 14, 19, 20, 23, 24]
                      refine wp_region_lit ?_
                      refine goCh Hz (.move rfl <| .add rfl rfl (r := ((i + 1 : Nat) : Int)) (by rw [IntWalk.i64_in _ (by omega)]; omega) <| .assign rfl <| .nil) ?_
                      clear Hz Az; intro Az Hz
                      refine wpList_nil ?_
                      show ∃ n', n' < _ ∧ _
                      exact ⟨yl.length - (i + 1), by omega, i + 1, _, p7, q1, q2, q3, q4, by omega, rfl, hqb, Hz.only [1, 7, 10, 14, 19, 20], m218.only [60, 1, 2, 3, 4, 5, 6, 7, 8]⟩
                  rcases (show f = 1 ∨ f = 2 ∨ f = 3 ∨ f = 4 by omega) with rfl | rfl | rfl | rfl
                  ·
                   refine wp_region_lit ?_
                   refine goCh Hz (.move rfl <| .move rfl <| .c rfl (fun _ h_ => y_idxA h_ rfl rfl Tryz.underlying72 sz3rc 1 rfl (by decide) (off := 1) rfl) <| .loadB1 m154 (i := 60) rfl rfl rfl Tryz.underlying3 rfl <| .move rfl <| .c rfl (fun _ h_ => y_max h_ rfl rfl rfl) <| .c rfl (fun _ h_ => y_idxA h_ rfl rfl Tryz.underlying72 sz3rc 1 rfl (by decide) (off := 1) rfl) <| .nil) ?_
                   clear Hz Az; intro Az Hz
                   refine wpList_plain rfl (fun K hK => ?_)
                   refine e_store1 Hz m154 60 rfl rfl rfl rfl rfl sz3rc (by dsimp only [List.set] <;> rfl) ?_
                   clear m154; intro w234 m234 hB234
                   clear hB234
                   refine hK _ _ ?_; clear hK K
                   refine wpList_nil ?_
                   show K28 _ _
                   exact hC28 _ _ ⟨(U 1 (ti : Int) 1 z1), (U 1 (ti : Int) 2 z2), (U 1 (ti : Int) 3 z3), (U 1 (ti : Int) 4 z4), ⟨U_bd (by omega) hzb.1, U_bd (by omega) hzb.2.1, U_bd (by omega) hzb.2.2.1, U_bd (by omega) hzb.2.2.2⟩, Hz.only [1, 7, 10, 14, 19, 20], m234.only [60, 1, 2, 3, 4, 5, 6, 7, 8]⟩
                  ·
                   refine wp_region_lit ?_
                   refine goCh Hz (.move rfl <| .move rfl <| .c rfl (fun _ h_ => y_idxA h_ rfl rfl Tryz.underlying72 sz3rc 2 rfl (by decide) (off := 2) rfl) <| .loadB1 m154 (i := 60) rfl rfl rfl Tryz.underlying3 rfl <| .move rfl <| .c rfl (fun _ h_ => y_max h_ rfl rfl rfl) <| .c rfl (fun _ h_ => y_idxA h_ rfl rfl Tryz.underlying72 sz3rc 2 rfl (by decide) (off := 2) rfl) <| .nil) ?_
                   clear Hz Az; intro Az Hz
                   refine wpList_plain rfl (fun K hK => ?_)
                   refine e_store1 Hz m154 60 rfl rfl rfl rfl rfl sz3rc (by dsimp only [List.set] <;> rfl) ?_
                   clear m154; intro w242 m242 hB242
                   clear hB242
                   refine hK _ _ ?_; clear hK K
                   refine wpList_nil ?_
                   show K28 _ _
                   exact hC28 _ _ ⟨(U 2 (ti : Int) 1 z1), (U 2 (ti : Int) 2 z2), (U 2 (ti : Int) 3 z3), (U 2 (ti : Int) 4 z4), ⟨U_bd (by omega) hzb.1, U_bd (by omega) hzb.2.1, U_bd (by omega) hzb.2.2.1, U_bd (by omega) hzb.2.2.2⟩, Hz.only [1, 7, 10, 14, 19, 20], m242.only [60, 1, 2, 3, 4, 5, 6, 7, 8]⟩
                  ·
                   refine wp_region_lit ?_
                   refine goCh Hz (.move rfl <| .move rfl <| .c rfl (fun _ h_ => y_idxA h_ rfl rfl Tryz.underlying72 sz3rc 3 rfl (by decide) (off := 3) rfl) <| .loadB1 m154 (i := 60) rfl rfl rfl Tryz.underlying3 rfl <| .move rfl <| .c rfl (fun _ h_ => y_max h_ rfl rfl rfl) <| .c rfl (fun _ h_ => y_idxA h_ rfl rfl Tryz.underlying72 sz3rc 3 rfl (by decide) (off := 3) rfl) <| .nil) ?_
                   clear Hz Az; intro Az Hz
                   refine wpList_plain rfl (fun K hK => ?_)
                   refine e_store1 Hz m154 60 rfl rfl rfl rfl rfl sz3rc (by dsimp only [List.set] <;> rfl) ?_
                   clear m154; intro w250 m250 hB250
                   clear hB250
                   refine hK _ _ ?_; clear hK K
                   refine wpList_nil ?_
                   show K28 _ _
                   exact hC28 _ _ ⟨(U 3 (ti : Int) 1 z1), (U 3 (ti : Int) 2 z2), (U 3 (ti : Int) 3 z3), (U 3 (ti : Int) 4 z4), ⟨U_bd (by omega) hzb.1, U_bd (by omega) hzb.2.1, U_bd (by omega) hzb.2.2.1, U_bd (by omega) hzb.2.2.2⟩, Hz.only [1, 7, 10, 14, 19, 20], m250.only [60, 1, 2, 3, 4, 5, 6, 7, 8]⟩
                  ·
                   refine wp_region_lit ?_
                   refine goCh Hz (.move rfl <| .move rfl <| .c rfl (fun _ h_ => y_idxA h_ rfl rfl Tryz.underlying72 sz3rc 4 rfl (by decide) (off := 4) rfl) <| .loadB1 m154 (i := 60) rfl rfl rfl Tryz.underlying3 rfl <| .move rfl <| .c rfl (fun _ h_ => y_max h_ rfl rfl rfl) <| .c rfl (fun _ h_ => y_idxA h_ rfl rfl Tryz.underlying72 sz3rc 4 rfl (by decide) (off := 4) rfl) <| .nil) ?_
                   clear Hz Az; intro Az Hz
                   refine wpList_plain rfl (fun K hK => ?_)
                   refine e_store1 Hz m154 60 rfl rfl rfl rfl rfl sz3rc (by dsimp only [List.set] <;> rfl) ?_
                   clear m154; intro w258 m258 hB258
                   clear hB258
                   refine hK _ _ ?_; clear hK K
                   refine wpList_nil ?_
                   show K28 _ _
                   exact hC28 _ _ ⟨(U 4 (ti : Int) 1 z1), (U 4 (ti : Int) 2 z2), (U 4 (ti : Int) 3 z3), (U 4 (ti : Int) 4 z4), ⟨U_bd (by omega) hzb.1, U_bd (by omega) hzb.2.1, U_bd (by omega) hzb.2.2.1, U_bd (by omega) hzb.2.2.2⟩, Hz.only [1, 7, 10, 14, 19, 20], m258.only [60, 1, 2, 3, 4, 5, 6, 7, 8]⟩
                refine wp_region_lit ?_
                refine goCh Hz (.move rfl <| .move rfl <| .move rfl <| .buildG rfl zc55rc ps55rc rfl <| .nil) ?_
                clear Hz Az; intro Az Hz
                refine wpList_plain rfl (fun K hK => ?_)
                refine e_call Hz Tryz.func23 rfl rfl rfl rfl (rRecvAppendOk_s _ R (AK k (q % 6) z1 z2 z3 z4 (WN k [((q % 6 : Nat) : Int) + 1, z1, z2, z3, z4] ((q % 6) + 1))) (nilP p9) 1 (f : Int) 0 1 (ti : Int) 0 0 _ (AK_ok hP (by omega) _ _ _ _ _ (by have := WN_bd k [((q % 6 : Nat) : Int) + 1, z1, z2, z3, z4] ((q % 6) + 1); omega)) hP.gr.symm hP.id.symm (by rw [show (AK k (q % 6) z1 z2 z3 z4 (WN k [((q % 6 : Nat) : Int) + 1, z1, z2, z3, z4] ((q % 6) + 1))).x.id = 0 from hP.id]; omega) hP.te.symm hP.ro hof (by omega) (by omega) (by rw [mx_AK (by omega) (by omega), show (AK k (q % 6) z1 z2 z3 z4 (WN k [((q % 6 : Nat) : Int) + 1, z1, z2, z3, z4] ((q % 6) + 1))).bi = 0 from hP.bi]; exact hmb) (m153.into [(1, 1), (2, 2), (3, 3), (4, 4), (5, 5), (6, 6), (7, 7), (8, 8)] (by decide) rfl)) ?_
                rintro e w263 ⟨p7, o7, rfl, hm263⟩
                have mx263 := m153.back hm263 [(1, 1), (2, 2), (3, 3), (4, 4), (5, 5), (6, 6), (7, 7), (8, 8), (11, 11), (12, 12)] (by decide); clear hm263 m153
                have m263 : MemOk _ _ [(1, _), (2, _), (3, _), (4, _), (5, _), (6, _), (7, _), (8, _), (11, _), (12, _), (60, _)] _ := mx263.only [1, 2, 3, 4, 5, 6, 7, 8, 11, 12, 60]; clear mx263
                refine ⟨_, rfl, ?_⟩; clear Hz Az; intro Az Hz
                refine hK _ _ ?_; clear hK K
                refine wpList_nil ?_
                rw [ack_step hP (by omega) (by omega) (by omega) (by omega) (by omega) z1 z2 z3 z4 (ti : Int)] at m263
                show K27 _ _
                exact hC27 _ _ ⟨p7, Hz.only [1, 7, 10, 14, 19, 20, 21, 22], m263.only [60, 1, 2, 3, 4, 5, 6, 7, 8]⟩
              obtain ⟨gx266, ox266, hp266, hl266, hrg266⟩ := h1.extN (i) (by omega)
              cases hp266; clear hl266
              obtain ⟨gx268, ox268, hp268, hl268, hrg268⟩ := h1.extN (i) (by omega)
              cases hp268; clear hl268
              have m269 : MemOk _ _ [(1, _), (2, _), (3, _), (4, _), (5, _), (6, _), (7, _), (8, _), (60, _)] _ := m147.only [1, 2, 3, 4, 5, 6, 7, 8, 60]; clear m147
              refine region_p 20 (B := [(1, _), (2, _), (3, _), (4, _), (5, _), (6, _), (7, _), (8, _), (60, _)]) (m269.to ⟨il, il, il, il, il, il, il, il, il, trivial⟩) m269 (by kernel_rfl) (fun w270 hP270 m270 => ?_); clear m269
              refine goR hP270 [0, 1, 2, 3, 4, 5, 6, 7, 8, 9, 10, 11, 12, 13, 14, 15, 16, 17, 18, 19] [3, 12] 20 0 1048575 Hz (m270.to ⟨il, il, il, il, il, il, il, il, il, trivial⟩) (.move rfl <| .move rfl <| .p (fun _ _ h_ => y_idx h_ rfl rfl Tryz.underlying27 sz5rc (i) rfl (by omega)) <| .loadAt1 (fun _ h_ => (hrg266 h_ rfl)) (q := 0) rfl rfl rfl Tryz.underlying5 rfl <| .conv rfl Tryz.underlying5 Tryz.underlying3 (r := yl.getD i 0) (IntWalk.i64_in _ (by omega)) <| .move rfl <| .sub rfl rfl (r := (k : Int) - 1) (IntWalk.i64_in _ (by omega)) <| .rem rfl rfl (r := yl.getD i 0 % ((k : Int) - 1)) (by omega) (Int.tmod_eq_emod_of_nonneg (by omega)) <| .add rfl rfl (r := (f : Int)) (by rw [IntWalk.i64_in _ (by omega)]; omega) <| .move rfl <| .move rfl <| .p (fun _ _ h_ => y_idx h_ rfl rfl Tryz.underlying27 sz5rc (i) rfl (by omega)) <| .loadAt1 (fun _ h_ => (hrg268 h_ rfl)) (q := 0) rfl rfl rfl Tryz.underlying5 rfl <| .quo rfl rfl (r := yl.getD i 0 / 8) (by omega) (by rw [Int.tdiv_eq_ediv_of_nonneg (by omega), IntWalk.u8_in _ (by omega)]) <| .conv rfl Tryz.underlying5 Tryz.underlying3 (r := yl.getD i 0 / 8) (IntWalk.i64_in _ (by omega)) <| .move rfl <| .add rfl rfl (r := ((q % 6 : Nat) : Int) + 1 + 1) (IntWalk.i64_in _ (by omega)) <| .rem rfl rfl (r := (ti : Int)) (by omega) (by rw [Int.tmod_eq_emod_of_nonneg (by omega)]; omega) <| .assign rfl <| .assign rfl <| .nil) ?_
              clear Hz Az; intro Az Hz
              refine wpAnyE_done (by kernel_rfl) ?_ _
              show K26 _ _
              exact hC26 _ _ ⟨Hz.only [1, 7, 10, 14, 19, 20, 21, 22], m270.only [60, 1, 2, 3, 4, 5, 6, 7, 8]⟩
             ·
              clear Hz; intro hb152 Hz
              try simp only [Q1x, Q2x, Q3x, Q4x, Q5x, Q6x, Q7x, Q8x, Q9x, Q0x, Qax, Qbx] at hb152
              have hA := AK_ok hP (by omega) z1 z2 z3 z4 (WN k [((q % 6 : Nat) : Int) + 1, z1, z2, z3, z4] ((q % 6) + 1)) (by have := WN_bd k [((q % 6 : Nat) : Int) + 1, z1, z2, z3, z4] ((q % 6) + 1); omega)
              refine wp_cond_false (Hz.ev (x := .tmp 104) rfl) ?_
              refine wp_exit ?_
              refine hK23 _ _ ?_; clear hK23; try clear K23
              refine wp_seq_k (fun K37 hK37 => ?_)
              refine wp_region_lit ?_
              refine goCh Hz (.move rfl .nil) ?_
              clear Hz Az; intro Az Hz
              refine wpList_plain rfl (fun K hK => ?_)
              refine e_call Hz Tryz.func29 rfl rfl rfl rfl (rRole _ R (AK k (q % 6) z1 z2 z3 z4 (WN k [((q % 6 : Nat) : Int) + 1, z1, z2, z3, z4] ((q % 6) + 1))) (nilP p9) _ (m147.into [(1, 1), (2, 2), (3, 3), (4, 4), (5, 5), (6, 6), (7, 7), (8, 8)] (by decide) rfl)) ?_
              rintro e w293 ⟨rfl, hm293⟩
              have mx293 := m147.back hm293 [(1, 1), (2, 2), (3, 3), (4, 4), (5, 5), (6, 6), (7, 7), (8, 8)] (by decide); clear hm293 m147
              have m293 : MemOk _ _ [(1, _), (2, _), (3, _), (4, _), (5, _), (6, _), (7, _), (8, _), (60, _)] _ := mx293.only [1, 2, 3, 4, 5, 6, 7, 8, 60]; clear mx293
              refine ⟨_, rfl, ?_⟩; clear Hz Az; intro Az Hz
              refine hK _ _ ?_; clear hK K
              refine goCh Hz (.eql rfl rfl <| .move rfl <| .nil) ?_
              clear Hz Az; intro Az Hz
              refine bool_cases Hz (t := 166) rfl ?_ ?_
              rotate_left
              · intro hb _; exact absurd hb (fun h9 => of_decide_eq_false h9 hP.ro)
              clear Hz; intro _ Hz
              refine goCh Hz (.moveZ rfl .nil) ?_
              clear Hz Az; intro Az Hz
              refine st_ge Hz rfl rfl rfl rfl (fun K hK => ?_)
              refine e_call Hz Tryz.func32 rfl rfl rfl rfl (rReady_s _ R (AK k (q % 6) z1 z2 z3 z4 (WN k [((q % 6 : Nat) : Int) + 1, z1, z2, z3, z4] ((q % 6) + 1))) (nilP p9) _ hA.l hA (by rw [show (AK k (q % 6) z1 z2 z3 z4 (WN k [((q % 6 : Nat) : Int) + 1, z1, z2, z3, z4] ((q % 6) + 1))).x.ap = 0 from hP.ap]; omega) (m293.into [(1, 1), (2, 2), (3, 3), (4, 4), (5, 5), (6, 6), (7, 7), (8, 8)] (by decide) rfl)) ?_
              rintro e w299 ⟨u4, c4, rfl, hm299⟩
              have mx299 := m293.back hm299 [(1, 1), (2, 2), (3, 3), (4, 4), (5, 5), (6, 6), (7, 7), (8, 8), (31, 11)] (by decide); clear hm299 m293
              have m299 : MemOk _ _ [(1, _), (2, _), (3, _), (4, _), (5, _), (6, _), (7, _), (8, _), (31, _), (60, _)] _ := mx299.only [1, 2, 3, 4, 5, 6, 7, 8, 31, 60]; clear mx299
              refine ⟨_, rfl, ?_⟩; clear Hz Az; intro Az Hz
              refine hK _ _ ?_; clear hK K
              refine goCh Hz (.lenZ rfl Tryz.underlying30 <| .moveZ rfl <| .nil) ?_
              clear Hz Az; intro Az Hz
              refine st_ge Hz rfl rfl rfl rfl (fun K hK => ?_)
              refine e_call Hz Tryz.func26 rfl rfl rfl rfl (rCommit _ R (withX (AK k (q % 6) z1 z2 z3 z4 (WN k [((q % 6 : Nat) : Int) + 1, z1, z2, z3, z4] ((q % 6) + 1))) { (AK k (q % 6) z1 z2 z3 z4 (WN k [((q % 6 : Nat) : Int) + 1, z1, z2, z3, z4] ((q % 6) + 1))).x with ap := (AK k (q % 6) z1 z2 z3 z4 (WN k [((q % 6 : Nat) : Int) + 1, z1, z2, z3, z4] ((q % 6) + 1))).x.co }) (nilP p9) _ (m299.into [(1, 1), (2, 2), (3, 3), (4, 4), (5, 5), (6, 6), (7, 7), (8, 8)] (by decide) rfl)) ?_
              rintro e w303 ⟨rfl, hm303⟩
              have mx303 := m299.back hm303 [(1, 1), (2, 2), (3, 3), (4, 4), (5, 5), (6, 6), (7, 7), (8, 8)] (by decide); clear hm303 m299
              have m303 : MemOk _ _ [(1, _), (2, _), (3, _), (4, _), (5, _), (6, _), (7, _), (8, _), (31, _), (60, _)] _ := mx303.only [1, 2, 3, 4, 5, 6, 7, 8, 31, 60]; clear mx303
              refine ⟨_, rfl, ?_⟩; clear Hz Az; intro Az Hz
              refine hK _ _ ?_; clear hK K
              refine goCh Hz (.eqlZ rfl rfl <| .pickT rfl rfl <| .assign rfl <| .nil) ?_
              clear Hz Az; intro Az Hz
              refine wpList_nil ?_
              refine hK37 _ _ ?_; clear hK37; try clear K37
              refine wp_ret ?_
              try dsimp only [Exit.then, Exit.inBlock]
              refine (ret1 (fn := Tryz.f7) Hz rfl rfl ?_)
              exact ⟨congrArg (fun b => Ending.returned (.bool b)) (decide_eq_true (ready_len hP (WN_bd k [((q % 6 : Nat) : Int) + 1, z1, z2, z3, z4] ((q % 6) + 1)))), m303.below⟩
end Go.Proofs.YtndnnlbdnjndiaaGreat.K
