/- General laws of walks. -/
import Derived.Test.YtndnnlbdnjndiaaGreatG16
namespace Go.Proofs.YtndnnlbdnjndiaaGreat.K
open Go.ChangeShapes Go.WideShapes Go.ChangeAt Go.RowKit
set_option linter.unusedVariables false
set_option linter.unusedSimpArgs false
section
theorem ps55wca : placesS Tryz.prog 55 = some [(0, 1), (1, 1), (2, 1), (3, 1), (4, 1), (5, 1), (6, 1), (7, 1), (8, 1), (9, 1), (10, 4), (14, 1), (15, 1), (16, 1), (17, 1), (18, 1)] := by kernel_rfl
theorem sz3wca : (Tryz.prog.info? 3).map (·.size) = some 1 := by kernel_rfl
theorem zc55wca : ((Tryz.prog.info? 55).bind (·.zero)).map (·.cells.toList) = some [.int .i64 0, .int .i64 0, .int .i64 0, .int .i64 0, .int .i64 0, .int .i64 0, .int .i64 0, .int .i64 0, .bool false, .slice none 0 0, .int .i64 0, .int .i64 0, .slice none 0 0, .slice none 0 0, .slice none 0 0, .int .i64 0, .int .i64 0, .int .i64 0, .int .i64 0] := by kernel_rfl
theorem ps55wwo : placesS Tryz.prog 55 = some [(0, 1), (1, 1), (2, 1), (3, 1), (4, 1), (5, 1), (6, 1), (7, 1), (8, 1), (9, 1), (10, 4), (14, 1), (15, 1), (16, 1), (17, 1), (18, 1)] := by kernel_rfl
theorem sz3wwo : (Tryz.prog.info? 3).map (·.size) = some 1 := by kernel_rfl
theorem zc55wwo : ((Tryz.prog.info? 55).bind (·.zero)).map (·.cells.toList) = some [.int .i64 0, .int .i64 0, .int .i64 0, .int .i64 0, .int .i64 0, .int .i64 0, .int .i64 0, .int .i64 0, .bool false, .slice none 0 0, .int .i64 0, .int .i64 0, .slice none 0 0, .slice none 0 0, .slice none 0 0, .int .i64 0, .int .i64 0, .int .i64 0, .int .i64 0] := by kernel_rfl
theorem sz3wws : (Tryz.prog.info? 3).map (·.size) = some 1 := by kernel_rfl

set_option maxRecDepth 100000
set_option maxHeartbeats 4000000
theorem wcall_s (X : Cx) (R : Nat) (s : RS) (p : RP) (kd tm : Int) (w0 : World) (hb : RLS s) (hw : WLS s) (hQ : s.ms.length ≤ 900000) (m0 : MemOk X w0 (rwM R s p) w0) :
   Calls Tryz.prog 95 #[.pointer (some ⟨R, 0, none⟩), .int .i64 kd, .int .i64 tm] w0 fun e w' => ∃ p', e = .returned (.tuple #[]) ∧ MemOk X w0 (rwM R (canvS s kd tm) p') w' := by
 refine enter (fn := Tryz.f95) Tryz.func95 rfl Tryz.ntmps95 rfl (fun Az Hz => ?_)
 simp only [List.zipIdx_cons, List.zipIdx_nil, List.map_cons, List.map_nil, Nat.reduceAdd, Nat.zero_add] at Hz
 have hol := othS_len s
 refine wp_seq_k (fun K0 hK0 => ?_)
 refine wp_region_lit ?_
 refine goCh Hz (.move rfl .nil) ?_
 clear Hz Az; intro Az Hz
 refine wpList_plain rfl (fun K hK => ?_)
 refine e_call Hz Tryz.func93 rfl rfl rfl rfl (wothers_s R s p _ (rwM_is s p (m0.into [(1, 1), (2, 2), (3, 3), (4, 4), (5, 5), (6, 6), (7, 7), (8, 8)] (by decide) rfl)) hb hw) ?_
 rintro e w3 ⟨qo, co9, rfl, hd3, hb3⟩
 have m4 := m0.callF 20 rfl hb3 hd3
 clear m0
 clear hb3 hd3
 refine ⟨_, rfl, ?_⟩; clear Hz Az; intro Az Hz
 refine hK _ _ ?_; clear hK K
 refine goCh Hz (.assign rfl .nil) ?_
 clear Hz Az; intro Az Hz
 refine wpList_nil ?_
 refine hK0 _ _ ?_; clear hK0; try clear K0
 refine regS Hz (.assign rfl <| .nil) ?_
 clear Hz Az; intro Az Hz
 refine wp_block ?_
 refine wp_loop_ghost (fun g a w => ∃ (k : Nat) (p1 : RP), k ≤ (othS s).length ∧ g = (othS s).length - k ∧ Has 40 [(0, .pointer (some ⟨R, 0, none⟩)), (1, .int .i64 kd), (2, .int .i64 tm), (6, .slice qo (othS s).length co9), (7, .int .i64 (k : Nat))] a ∧ MemOk X w0 ((20, .dat (.slice qo (othS s).length co9) (.ns .i64 (othS s))) :: rwM R (addM s (((othS s).take k).map fun n => toM s n (canvM s kd tm))) p1) w) ((othS s).length) ?_ ?_
 · exact ⟨0, p, Nat.zero_le _, rfl, Hz.only [0, 1, 2, 6, 7], (canv_zero s kd tm) ▸ m4.ren [(20, 20), (1, 1), (2, 2), (3, 3), (4, 4), (5, 5), (6, 6), (7, 7), (8, 8)] (by decide)⟩
 ·
  clear Hz m4
  rintro g Az w8 ⟨k, p1, hkl, hg, Hz, m8⟩
  refine wp_seq_k (fun K1 hK1 => ?_)
  refine regS Hz (.move rfl <| .move rfl <| .len rfl Tryz.underlying26 <| .lss rfl rfl <| .nil) ?_
  clear Hz Az; intro Az Hz
  refine bool_cases Hz (t := 13) rfl ?_ ?_
  ·
   clear Hz; intro hb13 Hz
   try simp only [Q1x, Q2x, Q3x, Q4x, Q5x, Q6x, Q7x, Q8x, Q9x, Q0x, Qax, Qbx] at hb13
   have hk : k < (othS s).length := by omega
   refine wp_cond_true (Hz.ev (x := .tmp 13) rfl) ?_
   refine wp_skip ?_
   refine hK1 _ _ ?_; clear hK1; try clear K1
   refine wp_seq_k (fun K2 hK2 => ?_)
   refine wp_block ?_
   obtain ⟨b14, o14, hp14, m14⟩ := m8.openN (i := 20) rfl (k) hk 100 rfl
   cases hp14; clear m8
   have m15 : MemOk _ _ [(1, _), (2, _), (3, _), (4, _), (5, _), (6, _), (7, _), (8, _), (20, _), (100, _)] _ := m14.only [1, 2, 3, 4, 5, 6, 7, 8, 20, 100]; clear m14
   refine region_p 23 (B := [(1, _), (2, _), (3, _), (4, _), (5, _), (6, _), (7, _), (8, _), (20, _), (100, _)]) (m15.to ⟨il, il, il, il, il, il, il, il, il, il, trivial⟩) m15 (by kernel_rfl) (fun w16 hP16 m16 => ?_); clear m15
   refine goR hP16 [0, 1, 2, 3, 4, 5, 6, 8, 9, 10, 11, 12, 13, 14, 15, 19, 20, 21, 22] [6, 11, 15, 22] 19 0 7929727 Hz (m16.to ⟨il, il, il, il, il, il, il, il, il, il, trivial⟩) (.move rfl <| .move rfl <| .move rfl <| .move rfl <| .nilCheck rfl <| .fieldAddr (off := 4) rfl Tryz.underlying91 rfl (s := 0) (by kernel_rfl) rfl <| .loadB1 hh (i := 1) rfl rfl rfl Tryz.underlying88 rfl <| .move rfl <| .nilCheck rfl <| .fieldAddr (off := 4) rfl Tryz.underlying91 rfl (s := 0) (by kernel_rfl) rfl <| .loadB1 hh (i := 1) rfl rfl rfl Tryz.underlying88 rfl <| .move rfl <| .nilCheck rfl <| .fieldAddr (off := 4) rfl Tryz.underlying91 rfl (s := 0) (by kernel_rfl) rfl <| .loadB1 hh (i := 1) rfl rfl rfl Tryz.underlying88 rfl <| .move rfl <| .move rfl <| .p (fun _ _ h_ => y_idx h_ rfl rfl Tryz.underlying26 sz3wca (k) rfl hk) <| .loadC0 hh (i := 100) rfl rfl Tryz.underlying3 rfl <| .nil) ?_
   clear Hz Az; intro Az Hz
   refine stepE_only 7 rfl (by kernel_rfl) rfl (fun K hK => ?_)
   refine e_call Hz Tryz.func57 rfl rfl rfl rfl (wlast_s R (addM s (((othS s).take k).map fun n => toM s n (canvM s kd tm))) p1 _ (rwM_is (addM s (((othS s).take k).map fun n => toM s n (canvM s kd tm))) p1 (m16.into [(1, 1), (2, 2), (3, 3), (4, 4), (5, 5), (6, 6), (7, 7), (8, 8)] (by decide) rfl)) hb) ?_
   rintro e w36 ⟨rfl, hb36⟩
   have m37 := m16.later hb36
   clear m16
   clear hb36
   refine ⟨_, rfl, ?_⟩; clear Hz Az; intro Az Hz
   refine hK _ _ (m37.to ⟨il, il, il, il, il, il, il, il, il, il, trivial⟩) ?_; clear hK K
   refine stepE_only 16 rfl (by kernel_rfl) rfl (fun K hK => ?_)
   refine e_call Hz Tryz.func57 rfl rfl rfl rfl (wlast_s R (addM s (((othS s).take k).map fun n => toM s n (canvM s kd tm))) p1 _ (rwM_is (addM s (((othS s).take k).map fun n => toM s n (canvM s kd tm))) p1 (m37.into [(1, 1), (2, 2), (3, 3), (4, 4), (5, 5), (6, 6), (7, 7), (8, 8)] (by decide) rfl)) hb) ?_
   rintro e w39 ⟨rfl, hb39⟩
   have m40 := m37.later hb39
   clear m37
   clear hb39
   refine ⟨_, rfl, ?_⟩; clear Hz Az; intro Az Hz
   refine hK _ _ (m40.to ⟨il, il, il, il, il, il, il, il, il, il, trivial⟩) ?_; clear hK K
   refine stepE_only 17 rfl (by kernel_rfl) rfl (fun K hK => ?_)
   refine e_call Hz Tryz.func58 rfl rfl rfl rfl (wterm_s R (addM s (((othS s).take k).map fun n => toM s n (canvM s kd tm))) p1 _ (rwM_is (addM s (((othS s).take k).map fun n => toM s n (canvM s kd tm))) p1 (m40.into [(1, 1), (2, 2), (3, 3), (4, 4), (5, 5), (6, 6), (7, 7), (8, 8)] (by decide) rfl)) hb (lastS s)) ?_
   rintro e w42 ⟨rfl, hb42⟩
   have m43 := m40.later hb42
   clear m40
   clear hb42
   refine ⟨_, rfl, ?_⟩; clear Hz Az; intro Az Hz
   refine hK _ _ (m43.to ⟨il, il, il, il, il, il, il, il, il, il, trivial⟩) ?_; clear hK K
   refine goA hP16 [18] 1 8126463 8388607 Hz (m43.to ⟨il, il, il, il, il, il, il, il, il, il, trivial⟩) (.p (fun _ _ h_ => y_buildG h_ rfl zc55wca ps55wca rfl) <| .nil) ?_
   clear Hz Az; intro Az Hz
   refine stepE_end 23 rfl (by kernel_rfl) rfl (by rfl) (fun K hK => ?_)
   refine e_call Hz Tryz.func62 rfl rfl rfl rfl (wsend0_s _ R (addM s (((othS s).take k).map fun n => toM s n (canvM s kd tm))) p1 ((othS s).getD k 0) kd tm (lastS s) (termS s (lastS s)) false _ (by simp; omega) (m43.into [(1, 1), (2, 2), (3, 3), (4, 4), (5, 5), (6, 6), (7, 7), (8, 8)] (by decide) rfl)) ?_
   rintro e w46 ⟨p46, rfl, hm46⟩
   have mx46 := m43.back hm46 [(1, 1), (2, 2), (3, 3), (4, 4), (5, 5), (6, 6), (7, 7), (8, 8)] (by decide); clear hm46 m43
   have m46 : MemOk _ _ [(1, _), (2, _), (3, _), (4, _), (5, _), (6, _), (7, _), (8, _), (20, _), (100, _)] _ := mx46.only [1, 2, 3, 4, 5, 6, 7, 8, 20, 100]; clear mx46
   refine ⟨_, rfl, ?_⟩; clear Hz Az; intro Az Hz
   refine hK _ _ ?_; clear hK K
   refine wpAnyE_done (by kernel_rfl) ?_ _
   refine hK2 _ _ ?_; clear hK2; try clear K2
   replace Hz : Has 40 [(0, _), (1, _), (2, _), (6, _), (7, _)] Az := Hz.only [0, 1, 2, 6, 7]
   refine wp_region_lit ?_
   refine goCh Hz (.move rfl <| .add rfl rfl (r := ((k + 1 : Nat) : Int)) (by rw [IntWalk.i64_in _ (by omega)]; omega) <| .assign rfl <| .nil) ?_
   clear Hz Az; intro Az Hz
   refine wpList_nil ?_
   show ∃ n', n' < _ ∧ _
   exact ⟨(othS s).length - (k + 1), by omega, k + 1, _, by omega, rfl, Hz.only [0, 1, 2, 6, 7], (canv_step s kd tm hk) ▸ m46.only [20, 1, 2, 3, 4, 5, 6, 7, 8]⟩
  ·
   clear Hz; intro hb13 Hz
   try simp only [Q1x, Q2x, Q3x, Q4x, Q5x, Q6x, Q7x, Q8x, Q9x, Q0x, Qax, Qbx] at hb13
   obtain rfl : k = (othS s).length := by omega
   refine wp_cond_false (Hz.ev (x := .tmp 13) rfl) ?_
   refine wp_exit ?_
   try dsimp only [Exit.then]
   try refine out_here ?_
   refine (ret0 (fn := Tryz.f95) Hz rfl ?_)
   rw [List.take_length] at m8
   exact ⟨_, rfl, m8.only [1, 2, 3, 4, 5, 6, 7, 8]⟩
theorem wword_s (X : Cx) (R : Nat) (s : RS) (p : RP) (n : Int) (w0 : World) (hb : RLS s) (hw : WLS s) (hQ : s.ms.length ≤ 1000000) (hn : 0 ≤ n ∧ n ≤ 6) (h1 : s.bi < nx s.x n) (h2 : nx s.x n ≤ 1000000000000000000) (m0 : MemOk X w0 (rwM R s p) w0) :
   Calls Tryz.prog 94 #[.pointer (some ⟨R, 0, none⟩), .int .i64 n] w0 fun e w' => ∃ p', e = .returned (.tuple #[]) ∧ MemOk X w0 (rwM R (addM s [toM s n (wordM s n)]) p') w' := by
 have hbi := hb.b
 refine enter (fn := Tryz.f94) Tryz.func94 rfl Tryz.ntmps94 rfl (fun Az Hz => ?_)
 simp only [List.zipIdx_cons, List.zipIdx_nil, List.map_cons, List.map_nil, Nat.reduceAdd, Nat.zero_add] at Hz
 refine wp_seq_k (fun K0 hK0 => ?_)
 have hC0 : ∀ (a : Act) (w : World), (Has 65 [(0, .pointer (some ⟨R, 0, none⟩)), (1, .int .i64 n), (4, .int .i64 (nx s.x n))] a ∧ MemOk X w0 (rwM R s p) w) → K0 a w := by
   clear Hz m0
   rintro Az w1 ⟨Hz, m1⟩
   refine hK0 _ _ ?_; clear hK0; try clear K0
   refine wp_seq_k (fun K1 hK1 => ?_)
   refine regS Hz (.move rfl <| .move rfl <| .nilCheck rfl <| .fieldAddr (off := 4) rfl Tryz.underlying91 rfl (s := 0) (by kernel_rfl) rfl <| .loadB1 m1 (i := 1) rfl rfl rfl Tryz.underlying88 rfl <| .nilCheck rfl <| .fieldAddr (off := 0) rfl Tryz.underlying98 rfl (s := 3) (by kernel_rfl) rfl <| .fieldAddr (off := 0) rfl Tryz.underlying29 rfl (s := 0) (by kernel_rfl) rfl <| .loadB1 m1 (i := 2) rfl rfl rfl Tryz.underlying3 rfl <| .leq rfl rfl <| .nil) ?_
   clear Hz Az; intro Az Hz
   refine bool_cases Hz (t := 20) rfl ?_ ?_
   · intro hb _; exact absurd hb (by simp; omega)
   clear Hz; intro _ Hz
   refine wp_cond_false (Hz.ev (x := .tmp 20) rfl) ?_
   refine wp_skip ?_
   refine hK1 _ _ ?_; clear hK1; try clear K1
   replace Hz : Has 65 [(0, _), (1, _), (4, _)] Az := Hz.only [0, 1, 4]
   have m14 : MemOk _ _ [(1, _), (2, _), (3, _), (4, _), (5, _), (6, _), (7, _), (8, _)] _ := m1.only [1, 2, 3, 4, 5, 6, 7, 8]; clear m1
   refine region_p 27 (B := [(1, _)]) (m14.to ⟨il, trivial⟩) m14 (by kernel_rfl) (fun w15 hP15 m15 => ?_); clear m14
   refine goR hP15 [0, 1, 2, 3, 4, 5, 6, 7, 8, 9, 10, 11, 12, 13, 15, 16, 17, 18, 19, 20, 21, 22, 23, 26] [5, 11, 18, 22] 24 0 83869695 Hz (m15.to ⟨il, trivial⟩) (.move rfl <| .move rfl <| .nilCheck rfl <| .fieldAddr (off := 2) rfl Tryz.underlying91 rfl (s := 1) (by kernel_rfl) rfl <| .fieldAddr (off := 2) rfl Tryz.underlying25 rfl (s := 0) (by kernel_rfl) rfl <| .loadB1 hh (i := 1) rfl rfl rfl Tryz.underlying3 rfl <| .move rfl <| .sub rfl rfl (IntWalk.i64_in _ (by omega)) <| .move rfl <| .nilCheck rfl <| .fieldAddr (off := 4) rfl Tryz.underlying91 rfl (s := 0) (by kernel_rfl) rfl <| .loadB1 hh (i := 1) rfl rfl rfl Tryz.underlying88 rfl <| .move rfl <| .sub rfl rfl (IntWalk.i64_in _ (by omega)) <| .move rfl <| .nilCheck rfl <| .fieldAddr (off := 5) rfl Tryz.underlying91 rfl (s := 0) (by kernel_rfl) rfl <| .loadB1 hh (i := 1) rfl rfl rfl Tryz.underlying3 rfl <| .move rfl <| .nilCheck rfl <| .fieldAddr (off := 4) rfl Tryz.underlying91 rfl (s := 0) (by kernel_rfl) rfl <| .loadB1 hh (i := 1) rfl rfl rfl Tryz.underlying88 rfl <| .move rfl <| .move rfl <| .nil) ?_
   clear Hz Az; intro Az Hz
   refine stepE_only 14 rfl (by kernel_rfl) rfl (fun K hK => ?_)
   refine e_call Hz Tryz.func58 rfl rfl rfl rfl (wterm_s R s p _ (rwM_is s p (m15.into [(1, 1), (2, 2), (3, 3), (4, 4), (5, 5), (6, 6), (7, 7), (8, 8)] (by decide) rfl)) hb (nx s.x n - 1)) ?_
   rintro e w40 ⟨rfl, hb40⟩
   have m41 := m15.later hb40
   clear m15
   clear hb40
   refine ⟨_, rfl, ?_⟩; clear Hz Az; intro Az Hz
   refine hK _ _ (m41.to ⟨il, trivial⟩) ?_; clear hK K
   refine stepE_only 24 rfl (by kernel_rfl) rfl (fun K hK => ?_)
   refine e_call Hz Tryz.func124 rfl rfl rfl rfl (wfrom_s _ R s p (nx s.x n) 4 _ hb hw (m41.into [(1, 1), (2, 2), (3, 3), (4, 4), (5, 5), (6, 6), (7, 7), (8, 8)] (by decide) rfl)) ?_
   rintro e w43 ⟨pl1, cl1, pr, cr, rfl, hm43⟩
   have mx43 := m41.back hm43 [(1, 1), (2, 2), (3, 3), (4, 4), (5, 5), (6, 6), (7, 7), (8, 8), (100, 9)] (by decide); clear hm43 m41
   have m43 : MemOk _ _ [(1, _), (2, _), (3, _), (4, _), (5, _), (6, _), (7, _), (8, _), (100, _)] _ := mx43.only [1, 2, 3, 4, 5, 6, 7, 8, 100]; clear mx43
   refine ⟨_, rfl, ?_⟩; clear Hz Az; intro Az Hz
   refine hK _ _ (m43.to ⟨il, trivial⟩) ?_; clear hK K
   refine goA hP15 [25] 1 100663295 134217727 Hz (m43.to ⟨il, trivial⟩) (.p (fun _ _ h_ => y_buildG h_ rfl zc55wwo ps55wwo rfl) <| .nil) ?_
   clear Hz Az; intro Az Hz
   refine stepE_end 27 rfl (by kernel_rfl) rfl (by rfl) (fun K hK => ?_)
   refine e_call Hz Tryz.func62 rfl rfl rfl rfl (wsendE_s _ R s { p with pl := pl1, cl := cl1 } n 5 s.x.te (nx s.x n - 1) (termS s (nx s.x n - 1)) s.x.co false (fromL s.bi s.es (nx s.x n) 4) _ _ _ (by omega) (m43.into [(9, 100), (1, 1), (2, 2), (3, 3), (4, 4), (5, 5), (6, 6), (7, 7), (8, 8)] (by decide) rfl)) ?_
   rintro e w46 ⟨p46, rfl, hm46⟩
   have mx46 := m43.back hm46 [(1, 1), (2, 2), (3, 3), (4, 4), (5, 5), (6, 6), (7, 7), (8, 8)] (by decide); clear hm46 m43
   have m46 : MemOk _ _ [(1, _), (2, _), (3, _), (4, _), (5, _), (6, _), (7, _), (8, _)] _ := mx46.only [1, 2, 3, 4, 5, 6, 7, 8]; clear mx46
   refine ⟨_, rfl, ?_⟩; clear Hz Az; intro Az Hz
   refine hK _ _ ?_; clear hK K
   refine wpAnyE_done (by kernel_rfl) ?_ _
   try dsimp only [Exit.then]
   try refine out_here ?_
   refine (ret0 (fn := Tryz.f94) Hz rfl ?_)
   exact ⟨_, rfl, m46.only [1, 2, 3, 4, 5, 6, 7, 8]⟩
 rcases (show n = 0 ∨ n = 1 ∨ n = 2 ∨ n = 3 ∨ n = 4 ∨ n = 5 ∨ n = 6 by omega) with rfl | rfl | rfl | rfl | rfl | rfl | rfl
 ·
  refine wp_region_lit ?_
  refine goCh Hz (.move rfl <| .move rfl <| .nilCheck rfl <| .fieldAddr (off := 10) rfl Tryz.underlying91 rfl (s := 6) (by kernel_rfl) rfl <| .c rfl (fun _ h_ => y_idxA h_ rfl rfl Tryz.underlying82 sz3wwo 0 rfl (by decide) (off := 10) rfl) <| .loadB1 m0 (i := 1) rfl rfl rfl Tryz.underlying3 rfl <| .assign rfl <| .nil) ?_
  clear Hz Az; intro Az Hz
  refine wpList_nil ?_
  show K0 _ _
  exact hC0 _ _ ⟨Hz.only [0, 1, 4], m0.only [1, 2, 3, 4, 5, 6, 7, 8]⟩
 ·
  refine wp_region_lit ?_
  refine goCh Hz (.move rfl <| .move rfl <| .nilCheck rfl <| .fieldAddr (off := 10) rfl Tryz.underlying91 rfl (s := 6) (by kernel_rfl) rfl <| .c rfl (fun _ h_ => y_idxA h_ rfl rfl Tryz.underlying82 sz3wwo 1 rfl (by decide) (off := 11) rfl) <| .loadB1 m0 (i := 1) rfl rfl rfl Tryz.underlying3 rfl <| .assign rfl <| .nil) ?_
  clear Hz Az; intro Az Hz
  refine wpList_nil ?_
  show K0 _ _
  exact hC0 _ _ ⟨Hz.only [0, 1, 4], m0.only [1, 2, 3, 4, 5, 6, 7, 8]⟩
 ·
  refine wp_region_lit ?_
  refine goCh Hz (.move rfl <| .move rfl <| .nilCheck rfl <| .fieldAddr (off := 10) rfl Tryz.underlying91 rfl (s := 6) (by kernel_rfl) rfl <| .c rfl (fun _ h_ => y_idxA h_ rfl rfl Tryz.underlying82 sz3wwo 2 rfl (by decide) (off := 12) rfl) <| .loadB1 m0 (i := 1) rfl rfl rfl Tryz.underlying3 rfl <| .assign rfl <| .nil) ?_
  clear Hz Az; intro Az Hz
  refine wpList_nil ?_
  show K0 _ _
  exact hC0 _ _ ⟨Hz.only [0, 1, 4], m0.only [1, 2, 3, 4, 5, 6, 7, 8]⟩
 ·
  refine wp_region_lit ?_
  refine goCh Hz (.move rfl <| .move rfl <| .nilCheck rfl <| .fieldAddr (off := 10) rfl Tryz.underlying91 rfl (s := 6) (by kernel_rfl) rfl <| .c rfl (fun _ h_ => y_idxA h_ rfl rfl Tryz.underlying82 sz3wwo 3 rfl (by decide) (off := 13) rfl) <| .loadB1 m0 (i := 1) rfl rfl rfl Tryz.underlying3 rfl <| .assign rfl <| .nil) ?_
  clear Hz Az; intro Az Hz
  refine wpList_nil ?_
  show K0 _ _
  exact hC0 _ _ ⟨Hz.only [0, 1, 4], m0.only [1, 2, 3, 4, 5, 6, 7, 8]⟩
 ·
  refine wp_region_lit ?_
  refine goCh Hz (.move rfl <| .move rfl <| .nilCheck rfl <| .fieldAddr (off := 10) rfl Tryz.underlying91 rfl (s := 6) (by kernel_rfl) rfl <| .c rfl (fun _ h_ => y_idxA h_ rfl rfl Tryz.underlying82 sz3wwo 4 rfl (by decide) (off := 14) rfl) <| .loadB1 m0 (i := 1) rfl rfl rfl Tryz.underlying3 rfl <| .assign rfl <| .nil) ?_
  clear Hz Az; intro Az Hz
  refine wpList_nil ?_
  show K0 _ _
  exact hC0 _ _ ⟨Hz.only [0, 1, 4], m0.only [1, 2, 3, 4, 5, 6, 7, 8]⟩
 ·
  refine wp_region_lit ?_
  refine goCh Hz (.move rfl <| .move rfl <| .nilCheck rfl <| .fieldAddr (off := 10) rfl Tryz.underlying91 rfl (s := 6) (by kernel_rfl) rfl <| .c rfl (fun _ h_ => y_idxA h_ rfl rfl Tryz.underlying82 sz3wwo 5 rfl (by decide) (off := 15) rfl) <| .loadB1 m0 (i := 1) rfl rfl rfl Tryz.underlying3 rfl <| .assign rfl <| .nil) ?_
  clear Hz Az; intro Az Hz
  refine wpList_nil ?_
  show K0 _ _
  exact hC0 _ _ ⟨Hz.only [0, 1, 4], m0.only [1, 2, 3, 4, 5, 6, 7, 8]⟩
 ·
  refine wp_region_lit ?_
  refine goCh Hz (.move rfl <| .move rfl <| .nilCheck rfl <| .fieldAddr (off := 10) rfl Tryz.underlying91 rfl (s := 6) (by kernel_rfl) rfl <| .c rfl (fun _ h_ => y_idxA h_ rfl rfl Tryz.underlying82 sz3wwo 6 rfl (by decide) (off := 16) rfl) <| .loadB1 m0 (i := 1) rfl rfl rfl Tryz.underlying3 rfl <| .assign rfl <| .nil) ?_
  clear Hz Az; intro Az Hz
  refine wpList_nil ?_
  show K0 _ _
  exact hC0 _ _ ⟨Hz.only [0, 1, 4], m0.only [1, 2, 3, 4, 5, 6, 7, 8]⟩
theorem wwords_s (X : Cx) (R : Nat) (s : RS) (p : RP) (w0 : World) (hb : RLS s) (hw : WLS s) (hQ : s.ms.length ≤ 900000) (hnx : ∀ n ∈ othS s, s.bi < nx s.x n ∧ nx s.x n ≤ 1000000000000000000) (m0 : MemOk X w0 (rwM R s p) w0) :
   Calls Tryz.prog 52 #[.pointer (some ⟨R, 0, none⟩)] w0 fun e w' => ∃ p', e = .returned (.tuple #[]) ∧ MemOk X w0 (rwM R (tellS s) p') w' := by
 refine enter (fn := Tryz.f52) Tryz.func52 rfl Tryz.ntmps52 rfl (fun Az Hz => ?_)
 simp only [List.zipIdx_cons, List.zipIdx_nil, List.map_cons, List.map_nil, Nat.reduceAdd, Nat.zero_add] at Hz
 have hol := othS_len s
 refine wp_seq_k (fun K0 hK0 => ?_)
 refine wp_region_lit ?_
 refine goCh Hz (.move rfl .nil) ?_
 clear Hz Az; intro Az Hz
 refine wpList_plain rfl (fun K hK => ?_)
 refine e_call Hz Tryz.func93 rfl rfl rfl rfl (wothers_s R s p _ (rwM_is s p (m0.into [(1, 1), (2, 2), (3, 3), (4, 4), (5, 5), (6, 6), (7, 7), (8, 8)] (by decide) rfl)) hb hw) ?_
 rintro e w3 ⟨qo, co9, rfl, hd3, hb3⟩
 have m4 := m0.callF 20 rfl hb3 hd3
 clear m0
 clear hb3 hd3
 refine ⟨_, rfl, ?_⟩; clear Hz Az; intro Az Hz
 refine hK _ _ ?_; clear hK K
 refine goCh Hz (.assign rfl .nil) ?_
 clear Hz Az; intro Az Hz
 refine wpList_nil ?_
 refine hK0 _ _ ?_; clear hK0; try clear K0
 refine regS Hz (.assign rfl <| .nil) ?_
 clear Hz Az; intro Az Hz
 refine wp_block ?_
 refine wp_loop_ghost (fun g a w => ∃ (k : Nat) (p1 : RP), k ≤ (othS s).length ∧ g = (othS s).length - k ∧ Has 18 [(0, .pointer (some ⟨R, 0, none⟩)), (2, .slice qo (othS s).length co9), (3, .int .i64 (k : Nat))] a ∧ MemOk X w0 ((20, .dat (.slice qo (othS s).length co9) (.ns .i64 (othS s))) :: rwM R (addM s (((othS s).take k).map fun n => toM s n (wordM s n))) p1) w) ((othS s).length) ?_ ?_
 · exact ⟨0, p, Nat.zero_le _, rfl, Hz.only [0, 2, 3], (tell_zero s) ▸ m4.ren [(20, 20), (1, 1), (2, 2), (3, 3), (4, 4), (5, 5), (6, 6), (7, 7), (8, 8)] (by decide)⟩
 ·
  clear Hz m4
  rintro g Az w8 ⟨k, p1, hkl, hg, Hz, m8⟩
  refine wp_seq_k (fun K1 hK1 => ?_)
  refine regS Hz (.move rfl <| .move rfl <| .len rfl Tryz.underlying26 <| .lss rfl rfl <| .nil) ?_
  clear Hz Az; intro Az Hz
  refine bool_cases Hz (t := 9) rfl ?_ ?_
  ·
   clear Hz; intro hb13 Hz
   try simp only [Q1x, Q2x, Q3x, Q4x, Q5x, Q6x, Q7x, Q8x, Q9x, Q0x, Qax, Qbx] at hb13
   have hk : k < (othS s).length := by omega
   refine wp_cond_true (Hz.ev (x := .tmp 9) rfl) ?_
   refine wp_skip ?_
   refine hK1 _ _ ?_; clear hK1; try clear K1
   refine wp_seq_k (fun K2 hK2 => ?_)
   refine wp_block ?_
   refine wp_region_lit ?_
   refine goCh Hz (.move rfl <| .move rfl <| .move rfl <| .nil) ?_
   clear Hz Az; intro Az Hz
   obtain ⟨b17, o17, hp17, m17⟩ := m8.openN (i := 20) rfl (k) hk 100 rfl
   cases hp17; clear m8
   refine goCh Hz (.c rfl (fun _ h_ => y_idx h_ rfl rfl Tryz.underlying26 sz3wws (k) rfl hk) <| .loadC0 m17 (i := 100) rfl rfl Tryz.underlying3 rfl <| .nil) ?_
   clear Hz Az; intro Az Hz
   refine wpList_plain rfl (fun K hK => ?_)
   refine e_call Hz Tryz.func94 rfl rfl rfl rfl (wword_s _ R (addM s (((othS s).take k).map fun n => toM s n (wordM s n))) p1 ((othS s).getD k 0) _ hb hw (by simp; omega) (othS_in s hk) (hnx _ (getD_mem hk)).1 (hnx _ (getD_mem hk)).2 (m17.into [(1, 1), (2, 2), (3, 3), (4, 4), (5, 5), (6, 6), (7, 7), (8, 8)] (by decide) rfl)) ?_
   rintro e w20 ⟨p20, rfl, hm20⟩
   have mx20 := m17.back hm20 [(1, 1), (2, 2), (3, 3), (4, 4), (5, 5), (6, 6), (7, 7), (8, 8)] (by decide); clear hm20 m17
   have m20 : MemOk _ _ [(1, _), (2, _), (3, _), (4, _), (5, _), (6, _), (7, _), (8, _), (20, _), (100, _)] _ := mx20.only [1, 2, 3, 4, 5, 6, 7, 8, 20, 100]; clear mx20
   refine ⟨_, rfl, ?_⟩; clear Hz Az; intro Az Hz
   refine hK _ _ ?_; clear hK K
   refine wpList_nil ?_
   refine hK2 _ _ ?_; clear hK2; try clear K2
   replace Hz : Has 18 [(0, _), (2, _), (3, _)] Az := Hz.only [0, 2, 3]
   refine wp_region_lit ?_
   refine goCh Hz (.move rfl <| .add rfl rfl (r := ((k + 1 : Nat) : Int)) (by rw [IntWalk.i64_in _ (by omega)]; omega) <| .assign rfl <| .nil) ?_
   clear Hz Az; intro Az Hz
   refine wpList_nil ?_
   show ∃ n', n' < _ ∧ _
   exact ⟨(othS s).length - (k + 1), by omega, k + 1, _, by omega, rfl, Hz.only [0, 2, 3], (tell_step s hk) ▸ m20.only [20, 1, 2, 3, 4, 5, 6, 7, 8]⟩
  ·
   clear Hz; intro hb13 Hz
   try simp only [Q1x, Q2x, Q3x, Q4x, Q5x, Q6x, Q7x, Q8x, Q9x, Q0x, Qax, Qbx] at hb13
   obtain rfl : k = (othS s).length := by omega
   refine wp_cond_false (Hz.ev (x := .tmp 9) rfl) ?_
   refine wp_exit ?_
   try dsimp only [Exit.then]
   try refine out_here ?_
   refine (ret0 (fn := Tryz.f52) Hz rfl ?_)
   rw [List.take_length] at m8
   exact ⟨_, rfl, m8.only [1, 2, 3, 4, 5, 6, 7, 8]⟩
end
end Go.Proofs.YtndnnlbdnjndiaaGreat.K
