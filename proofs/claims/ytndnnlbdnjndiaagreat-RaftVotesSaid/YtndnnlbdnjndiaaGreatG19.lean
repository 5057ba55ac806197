/- General laws of walks. -/
import Derived.Test.YtndnnlbdnjndiaaGreatG18
namespace Go.Proofs.YtndnnlbdnjndiaaGreat.K
open Go.ChangeShapes Go.WideShapes Go.ChangeAt Go.RowKit
set_option linter.unusedVariables false
set_option linter.unusedSimpArgs false
section
theorem inf3wst : (Tryz.prog.info? 3).map (fun i => (i.zero, i.size, i.bytes)) = some (some (.int .i64 0), 1, 8) := by kernel_rfl
theorem sz3wst : (Tryz.prog.info? 3).map (·.size) = some 1 := by kernel_rfl
theorem sz26wst : (Tryz.prog.info? 26).map (·.size) = some 1 := by kernel_rfl
theorem inf3was : (Tryz.prog.info? 3).map (fun i => (i.zero, i.size, i.bytes)) = some (some (.int .i64 0), 1, 8) := by kernel_rfl
theorem sz3was : (Tryz.prog.info? 3).map (·.size) = some 1 := by kernel_rfl
theorem sz26was : (Tryz.prog.info? 26).map (·.size) = some 1 := by kernel_rfl

set_option maxRecDepth 100000
set_option maxHeartbeats 4000000
theorem wstand_s (X : Cx) (R : Nat) (s : RS) (p : RP) (w0 : World) (hk : ROk s) (hw : WLS s) (m0 : MemOk X w0 (rwM R s p) w0) :
   Calls Tryz.prog 64 #[.pointer (some ⟨R, 0, none⟩)] w0 fun e w' => ∃ p', e = .returned (.tuple #[]) ∧ MemOk X w0 (rwM R (standS s) p') w' := by
 refine enter (fn := Tryz.f64) Tryz.func64 rfl Tryz.ntmps64 rfl (fun Az Hz => ?_)
 simp only [List.zipIdx_cons, List.zipIdx_nil, List.map_cons, List.map_nil, Nat.reduceAdd, Nat.zero_add] at Hz
 have hte := hk.te
 refine wp_seq_k (fun K0 hK0 => ?_)
 have m1 : MemOk _ _ [(1, _), (2, _), (3, _), (4, _), (5, _), (6, _), (7, _), (8, _)] _ := m0.only [1, 2, 3, 4, 5, 6, 7, 8]; clear m0
 refine region_p 11 (B := [(1, _), (2, _), (3, _), (4, _), (5, _), (6, _), (7, _), (8, _)]) (m1.to ⟨il, il, il, il, il, il, il, il, trivial⟩) m1 (by kernel_rfl) (fun w2 hP2 m2 => ?_); clear m1
 refine goR hP2 [0, 1, 2, 3, 4, 5, 6, 7, 8, 9, 10] [5, 10] 11 0 2047 Hz (m2.to ⟨il, il, il, il, il, il, il, il, trivial⟩) (.move rfl <| .move rfl <| .nilCheck rfl <| .fieldAddr (off := 2) rfl Tryz.underlying91 rfl (s := 1) (by kernel_rfl) rfl <| .fieldAddr (off := 2) rfl Tryz.underlying25 rfl (s := 0) (by kernel_rfl) rfl <| .loadB1 hh (i := 1) rfl rfl rfl Tryz.underlying3 rfl <| .add rfl rfl (r := s.x.te + 1) (IntWalk.i64_in (s.x.te + 1) (by omega)) <| .move rfl <| .nilCheck rfl <| .fieldAddr (off := 0) rfl Tryz.underlying91 rfl (s := 0) (by kernel_rfl) rfl <| .loadB1 hh (i := 1) rfl rfl rfl Tryz.underlying3 rfl <| .nil) ?_
 clear Hz Az; intro Az Hz
 refine stepE_end 11 rfl (by kernel_rfl) rfl (by rfl) (fun K hK => ?_)
 refine e_call Hz Tryz.func106 rfl rfl rfl rfl (whard_s _ R s p (s.x.te + 1) s.x.id _ (by have := hk.rs; omega) (m2.into [(1, 1), (2, 2), (3, 3), (4, 4), (5, 5), (6, 6), (7, 7), (8, 8)] (by decide) rfl)) ?_
 rintro e w14 ⟨p1, rfl, hm14⟩
 have mx14 := m2.back hm14 [(1, 1), (2, 2), (3, 3), (4, 4), (5, 5), (6, 6), (7, 7), (8, 8)] (by decide); clear hm14 m2
 have m14 : MemOk _ _ [(1, _), (2, _), (3, _), (4, _), (5, _), (6, _), (7, _), (8, _)] _ := mx14.only [1, 2, 3, 4, 5, 6, 7, 8]; clear mx14
 refine ⟨_, rfl, ?_⟩; clear Hz Az; intro Az Hz
 refine hK _ _ ?_; clear hK K
 refine wpAnyE_done (by kernel_rfl) ?_ _
 refine hK0 _ _ ?_; clear hK0; try clear K0
 refine wp_seq_k (fun K1 hK1 => ?_)
 have hC1 : ∀ (a : Act) (w : World), (∃ (py : Option Addr) (cy : Nat), Has 39 [(0, .pointer (some ⟨R, 0, none⟩))] a ∧ MemOk X w0 (rwM R (runS (hardS (withX s { s.x with te := s.x.te + 1, vo := s.x.id })) 2) { p1 with py := py, cy := cy }) w) → K1 a w := by
   clear Hz m14
   rintro Az w16 ⟨py, cy, Hz, m16⟩
   refine hK1 _ _ ?_; clear hK1; try clear K1
   refine wp_seq_k (fun K2 hK2 => ?_)
   refine wp_seq_k (fun K3 hK3 => ?_)
   refine wp_region_lit ?_
   refine goCh Hz (.move rfl .nil) ?_
   clear Hz Az; intro Az Hz
   refine wpList_plain rfl (fun K hK => ?_)
   refine e_call Hz Tryz.func63 rfl rfl rfl rfl (wfav_s R (runS (hardS (withX s { s.x with te := s.x.te + 1, vo := s.x.id })) 2) { p1 with py := py, cy := cy } _ (rwM_is (runS (hardS (withX s { s.x with te := s.x.te + 1, vo := s.x.id })) 2) { p1 with py := py, cy := cy } (m16.into [(1, 1), (2, 2), (3, 3), (4, 4), (5, 5), (6, 6), (7, 7), (8, 8)] (by decide) rfl)) hk.l hw (by show 1 ≤ 900; decide)) ?_
   rintro e w19 ⟨rfl, hb19⟩
   have m20 := m16.later hb19
   clear m16
   clear hb19
   refine ⟨_, rfl, ?_⟩; clear Hz Az; intro Az Hz
   refine hK _ _ ?_; clear hK K
   refine wpList_nil ?_
   refine hK3 _ _ ?_; clear hK3; try clear K3
   refine bool_cases Hz (t := 29) rfl ?_ ?_
   ·
    clear Hz; intro hb22 Hz
    try simp only [Q1x, Q2x, Q3x, Q4x, Q5x, Q6x, Q7x, Q8x, Q9x, Q0x, Qax, Qbx] at hb22
    refine wp_cond_true (Hz.ev (x := .tmp 29) rfl) ?_
    refine wp_seq_k (fun K4 hK4 => ?_)
    refine wp_region_lit ?_
    refine goCh Hz (.move rfl .nil) ?_
    clear Hz Az; intro Az Hz
    refine wpList_plain rfl (fun K hK => ?_)
    refine e_call Hz Tryz.func107 rfl rfl rfl rfl (wlead_s _ R (runS (hardS (withX s { s.x with te := s.x.te + 1, vo := s.x.id })) 2) { p1 with py := py, cy := cy } _ hk.l hw (Nat.lt_of_lt_of_le hk.n (by decide)) (by show (s.rs ++ [_]).length ≤ _; have := hk.rs; rw [List.length_append]; simp; omega) hk.co hk.ld (by have := hk.ms; show s.ms.length ≤ _; omega) (m20.into [(1, 1), (2, 2), (3, 3), (4, 4), (5, 5), (6, 6), (7, 7), (8, 8)] (by decide) rfl)) ?_
    rintro e w25 ⟨p3, rfl, hm25⟩
    have mx25 := m20.back hm25 [(1, 1), (2, 2), (3, 3), (4, 4), (5, 5), (6, 6), (7, 7), (8, 8)] (by decide); clear hm25 m20
    have m25 : MemOk _ _ [(1, _), (2, _), (3, _), (4, _), (5, _), (6, _), (7, _), (8, _)] _ := mx25.only [1, 2, 3, 4, 5, 6, 7, 8]; clear mx25
    refine ⟨_, rfl, ?_⟩; clear Hz Az; intro Az Hz
    refine hK _ _ ?_; clear hK K
    refine wpList_nil ?_
    refine hK4 _ _ ?_; clear hK4; try clear K4
    refine wp_ret ?_
    try dsimp only [Exit.then, Exit.inBlock]
    refine (ret0r (fn := Tryz.f64) Hz rfl ?_)
    refine ⟨p3, rfl, ?_⟩
    rw [stand_yes s hb22]
    exact m25.only [1, 2, 3, 4, 5, 6, 7, 8]
   ·
    clear Hz; intro hb22 Hz
    try simp only [Q1x, Q2x, Q3x, Q4x, Q5x, Q6x, Q7x, Q8x, Q9x, Q0x, Qax, Qbx] at hb22
    refine wp_cond_false (Hz.ev (x := .tmp 29) rfl) ?_
    refine wp_skip ?_
    refine hK2 _ _ ?_; clear hK2; try clear K2
    refine wp_region_lit ?_
    refine goCh Hz (.move rfl <| .move rfl <| .nilCheck rfl <| .fieldAddr (off := 2) rfl Tryz.underlying91 rfl (s := 1) (by kernel_rfl) rfl <| .fieldAddr (off := 2) rfl Tryz.underlying25 rfl (s := 0) (by kernel_rfl) rfl <| .loadB1 m20 (i := 1) rfl rfl rfl Tryz.underlying3 rfl <| .nil) ?_
    clear Hz Az; intro Az Hz
    refine wpList_plain rfl (fun K hK => ?_)
    refine e_call Hz Tryz.func95 rfl rfl rfl rfl (wcall_s _ R (runS (hardS (withX s { s.x with te := s.x.te + 1, vo := s.x.id })) 2) { p1 with py := py, cy := cy } 3 (s.x.te + 1) _ hk.l hw (by have := hk.ms; show s.ms.length ≤ _; omega) (m20.into [(1, 1), (2, 2), (3, 3), (4, 4), (5, 5), (6, 6), (7, 7), (8, 8)] (by decide) rfl)) ?_
    rintro e w33 ⟨p3, rfl, hm33⟩
    have mx33 := m20.back hm33 [(1, 1), (2, 2), (3, 3), (4, 4), (5, 5), (6, 6), (7, 7), (8, 8)] (by decide); clear hm33 m20
    have m33 : MemOk _ _ [(1, _), (2, _), (3, _), (4, _), (5, _), (6, _), (7, _), (8, _)] _ := mx33.only [1, 2, 3, 4, 5, 6, 7, 8]; clear mx33
    refine ⟨_, rfl, ?_⟩; clear Hz Az; intro Az Hz
    refine hK _ _ ?_; clear hK K
    refine wpList_nil ?_
    try dsimp only [Exit.then]
    try refine out_here ?_
    refine (ret0 (fn := Tryz.f64) Hz rfl ?_)
    refine ⟨p3, rfl, ?_⟩
    rw [stand_no s hb22]
    exact m33.only [1, 2, 3, 4, 5, 6, 7, 8]
 replace Hz : Has 39 [(0, _)] Az := Hz.only [0]
 refine wp_region_lit ?_
 refine goCh Hz (.move rfl <| .move rfl <| .move rfl <| .move rfl <| .nilCheck rfl <| .fieldAddr (off := 0) rfl Tryz.underlying91 rfl (s := 0) (by kernel_rfl) rfl <| .loadB1 m14 (i := 1) rfl rfl rfl Tryz.underlying3 rfl <| .nil) ?_
 clear Hz Az; intro Az Hz
 refine wpList_plain rfl (fun K hK => ?_)
 refine e_litN Hz m14 20 (k := .i64) rfl rfl Tryz.underlying26 inf3wst rfl rfl rfl rfl ?_
 clear Hz Az m14; intro g43 Az w44 Hz m44
 refine hK _ _ ?_; clear hK K
 refine goCh Hz (.nilCheck rfl <| .fieldAddr (off := 7) rfl Tryz.underlying91 rfl (s := 0) (by kernel_rfl) rfl <| .nil) ?_
 clear Hz Az; intro Az Hz
 refine wpList_plain rfl (fun K hK => ?_)
 refine e_store1 Hz m44 1 rfl rfl rfl rfl rfl sz3wst (by dsimp only [List.set] <;> rfl) ?_
 clear m44; intro w47 m47 hB47
 clear hB47
 refine hK _ _ ?_; clear hK K
 refine goCh Hz (.nilCheck rfl <| .fieldAddr (off := 8) rfl Tryz.underlying91 rfl (s := 0) (by kernel_rfl) rfl <| .nil) ?_
 clear Hz Az; intro Az Hz
 refine wpList_plain rfl (fun K hK => ?_)
 refine e_store1 Hz m47 1 rfl rfl rfl rfl rfl sz3wst (by dsimp only [List.set] <;> rfl) ?_
 clear m47; intro w50 m50 hB50
 clear hB50
 refine hK _ _ ?_; clear hK K
 refine goCh Hz (.nilCheck rfl <| .fieldAddr (off := 9) rfl Tryz.underlying91 rfl (s := 0) (by kernel_rfl) rfl <| .nil) ?_
 clear Hz Az; intro Az Hz
 refine wpList_plain rfl (fun K hK => ?_)
 refine e_store1 Hz m50 1 rfl rfl rfl rfl rfl sz26wst (by dsimp only [List.set] <;> rfl) ?_
 clear m50; intro w53 m53 hB53
 clear hB53
 refine hK _ _ ?_; clear hK K
 refine wpList_nil ?_
 have m54 := m53.freezeN 20 rfl; clear m53
 show K1 _ _
 exact hC1 _ _ ⟨some ⟨g43, 0, none⟩, 1, Hz.only [0], m54.ren [(1, 1), (2, 2), (3, 3), (4, 4), (5, 5), (6, 20), (7, 7), (8, 8)] (by decide)⟩
theorem wask_s (X : Cx) (R : Nat) (s : RS) (p : RP) (w0 : World) (hk : ROk s) (hw : WLS s) (m0 : MemOk X w0 (rwM R s p) w0) :
   Calls Tryz.prog 56 #[.pointer (some ⟨R, 0, none⟩)] w0 fun e w' => ∃ p', e = .returned (.tuple #[]) ∧ MemOk X w0 (rwM R (askS s) p') w' := by
 refine enter (fn := Tryz.f56) Tryz.func56 rfl Tryz.ntmps56 rfl (fun Az Hz => ?_)
 simp only [List.zipIdx_cons, List.zipIdx_nil, List.map_cons, List.map_nil, Nat.reduceAdd, Nat.zero_add] at Hz
 have hte := hk.te
 refine wp_seq_k (fun K0 hK0 => ?_)
 have hC0 : ∀ (a : Act) (w : World), (∃ (py : Option Addr) (cy : Nat), Has 28 [(0, .pointer (some ⟨R, 0, none⟩))] a ∧ MemOk X w0 (rwM R (runS s 1) { p with py := py, cy := cy }) w) → K0 a w := by
   clear Hz m0
   rintro Az w1 ⟨py, cy, Hz, m1⟩
   refine hK0 _ _ ?_; clear hK0; try clear K0
   refine wp_seq_k (fun K1 hK1 => ?_)
   refine wp_seq_k (fun K2 hK2 => ?_)
   refine wp_region_lit ?_
   refine goCh Hz (.move rfl .nil) ?_
   clear Hz Az; intro Az Hz
   refine wpList_plain rfl (fun K hK => ?_)
   refine e_call Hz Tryz.func63 rfl rfl rfl rfl (wfav_s R (runS s 1) { p with py := py, cy := cy } _ (rwM_is (runS s 1) { p with py := py, cy := cy } (m1.into [(1, 1), (2, 2), (3, 3), (4, 4), (5, 5), (6, 6), (7, 7), (8, 8)] (by decide) rfl)) hk.l hw (by show 1 ≤ 900; decide)) ?_
   rintro e w4 ⟨rfl, hb4⟩
   have m5 := m1.later hb4
   clear m1
   clear hb4
   refine ⟨_, rfl, ?_⟩; clear Hz Az; intro Az Hz
   refine hK _ _ ?_; clear hK K
   refine wpList_nil ?_
   refine hK2 _ _ ?_; clear hK2; try clear K2
   refine bool_cases Hz (t := 17) rfl ?_ ?_
   ·
    clear Hz; intro hb7 Hz
    try simp only [Q1x, Q2x, Q3x, Q4x, Q5x, Q6x, Q7x, Q8x, Q9x, Q0x, Qax, Qbx] at hb7
    refine wp_cond_true (Hz.ev (x := .tmp 17) rfl) ?_
    refine wp_seq_k (fun K3 hK3 => ?_)
    refine wp_region_lit ?_
    refine goCh Hz (.move rfl .nil) ?_
    clear Hz Az; intro Az Hz
    refine wpList_plain rfl (fun K hK => ?_)
    refine e_call Hz Tryz.func64 rfl rfl rfl rfl (wstand_s _ R (runS s 1) { p with py := py, cy := cy } _ (hk.run 1) hw (m5.into [(1, 1), (2, 2), (3, 3), (4, 4), (5, 5), (6, 6), (7, 7), (8, 8)] (by decide) rfl)) ?_
    rintro e w10 ⟨p2, rfl, hm10⟩
    have mx10 := m5.back hm10 [(1, 1), (2, 2), (3, 3), (4, 4), (5, 5), (6, 6), (7, 7), (8, 8)] (by decide); clear hm10 m5
    have m10 : MemOk _ _ [(1, _), (2, _), (3, _), (4, _), (5, _), (6, _), (7, _), (8, _)] _ := mx10.only [1, 2, 3, 4, 5, 6, 7, 8]; clear mx10
    refine ⟨_, rfl, ?_⟩; clear Hz Az; intro Az Hz
    refine hK _ _ ?_; clear hK K
    refine wpList_nil ?_
    refine hK3 _ _ ?_; clear hK3; try clear K3
    refine wp_ret ?_
    try dsimp only [Exit.then, Exit.inBlock]
    refine (ret0r (fn := Tryz.f56) Hz rfl ?_)
    refine ⟨p2, rfl, ?_⟩
    rw [ask_yes s hb7]
    exact m10.only [1, 2, 3, 4, 5, 6, 7, 8]
   ·
    clear Hz; intro hb7 Hz
    try simp only [Q1x, Q2x, Q3x, Q4x, Q5x, Q6x, Q7x, Q8x, Q9x, Q0x, Qax, Qbx] at hb7
    refine wp_cond_false (Hz.ev (x := .tmp 17) rfl) ?_
    refine wp_skip ?_
    refine hK1 _ _ ?_; clear hK1; try clear K1
    refine wp_region_lit ?_
    refine goCh Hz (.move rfl <| .move rfl <| .nilCheck rfl <| .fieldAddr (off := 2) rfl Tryz.underlying91 rfl (s := 1) (by kernel_rfl) rfl <| .fieldAddr (off := 2) rfl Tryz.underlying25 rfl (s := 0) (by kernel_rfl) rfl <| .loadB1 m5 (i := 1) rfl rfl rfl Tryz.underlying3 rfl <| .add rfl rfl (r := s.x.te + 1) (IntWalk.i64_in (s.x.te + 1) (by omega)) <| .nil) ?_
    clear Hz Az; intro Az Hz
    refine wpList_plain rfl (fun K hK => ?_)
    refine e_call Hz Tryz.func95 rfl rfl rfl rfl (wcall_s _ R (runS s 1) { p with py := py, cy := cy } 1 (s.x.te + 1) _ hk.l hw (by have := hk.ms; show s.ms.length ≤ _; omega) (m5.into [(1, 1), (2, 2), (3, 3), (4, 4), (5, 5), (6, 6), (7, 7), (8, 8)] (by decide) rfl)) ?_
    rintro e w19 ⟨p2, rfl, hm19⟩
    have mx19 := m5.back hm19 [(1, 1), (2, 2), (3, 3), (4, 4), (5, 5), (6, 6), (7, 7), (8, 8)] (by decide); clear hm19 m5
    have m19 : MemOk _ _ [(1, _), (2, _), (3, _), (4, _), (5, _), (6, _), (7, _), (8, _)] _ := mx19.only [1, 2, 3, 4, 5, 6, 7, 8]; clear mx19
    refine ⟨_, rfl, ?_⟩; clear Hz Az; intro Az Hz
    refine hK _ _ ?_; clear hK K
    refine wpList_nil ?_
    try dsimp only [Exit.then]
    try refine out_here ?_
    refine (ret0 (fn := Tryz.f56) Hz rfl ?_)
    refine ⟨p2, rfl, ?_⟩
    rw [ask_no s hb7]
    exact m19.only [1, 2, 3, 4, 5, 6, 7, 8]
 refine wp_region_lit ?_
 refine goCh Hz (.move rfl <| .move rfl <| .move rfl <| .move rfl <| .nilCheck rfl <| .fieldAddr (off := 0) rfl Tryz.underlying91 rfl (s := 0) (by kernel_rfl) rfl <| .loadB1 m0 (i := 1) rfl rfl rfl Tryz.underlying3 rfl <| .nil) ?_
 clear Hz Az; intro Az Hz
 refine wpList_plain rfl (fun K hK => ?_)
 refine e_litN Hz m0 20 (k := .i64) rfl rfl Tryz.underlying26 inf3was rfl rfl rfl rfl ?_
 clear Hz Az m0; intro g28 Az w29 Hz m29
 refine hK _ _ ?_; clear hK K
 refine goCh Hz (.nilCheck rfl <| .fieldAddr (off := 7) rfl Tryz.underlying91 rfl (s := 0) (by kernel_rfl) rfl <| .nil) ?_
 clear Hz Az; intro Az Hz
 refine wpList_plain rfl (fun K hK => ?_)
 refine e_store1 Hz m29 1 rfl rfl rfl rfl rfl sz3was (by dsimp only [List.set] <;> rfl) ?_
 clear m29; intro w32 m32 hB32
 clear hB32
 refine hK _ _ ?_; clear hK K
 refine goCh Hz (.nilCheck rfl <| .fieldAddr (off := 8) rfl Tryz.underlying91 rfl (s := 0) (by kernel_rfl) rfl <| .nil) ?_
 clear Hz Az; intro Az Hz
 refine wpList_plain rfl (fun K hK => ?_)
 refine e_store1 Hz m32 1 rfl rfl rfl rfl rfl sz3was (by dsimp only [List.set] <;> rfl) ?_
 clear m32; intro w35 m35 hB35
 clear hB35
 refine hK _ _ ?_; clear hK K
 refine goCh Hz (.nilCheck rfl <| .fieldAddr (off := 9) rfl Tryz.underlying91 rfl (s := 0) (by kernel_rfl) rfl <| .nil) ?_
 clear Hz Az; intro Az Hz
 refine wpList_plain rfl (fun K hK => ?_)
 refine e_store1 Hz m35 1 rfl rfl rfl rfl rfl sz26was (by dsimp only [List.set] <;> rfl) ?_
 clear m35; intro w38 m38 hB38
 clear hB38
 refine hK _ _ ?_; clear hK K
 refine wpList_nil ?_
 have m39 := m38.freezeN 20 rfl; clear m38
 show K0 _ _
 exact hC0 _ _ ⟨some ⟨g28, 0, none⟩, 1, Hz.only [0], m39.ren [(1, 1), (2, 2), (3, 3), (4, 4), (5, 5), (6, 20), (7, 7), (8, 8)] (by decide)⟩
end
section
theorem sz3wti : (Tryz.prog.info? 3).map (·.size) = some 1 := by kernel_rfl
theorem sz48wti : (Tryz.prog.info? 48).map (·.size) = some 3 := by kernel_rfl
theorem zc48wti : ((Tryz.prog.info? 48).bind (·.zero)).map (·.cells.toList) = some [.slice none 0 0, .slice none 0 0, .bool false] := by kernel_rfl

def tickW (s : RS) : RS :=
 if s.x.ro = 3 then
   if 2 ≤ s.x.be + 1 then tellS (withX s { s.x with be := 0 }) else (withX s { s.x with be := s.x.be + 1 })
 else
   if (memS s).contains s.x.id = true ∧ tmo s.x.id s.x.te ≤ s.x.si + 1 then askS (withX s { s.x with si := 0 }) else (withX s { s.x with si := s.x.si + 1 })
theorem tickW_tell (s : RS) (h : s.x.ro = 3) (h2 : 2 ≤ s.x.be + 1) : tickW s = tellS (withX s { s.x with be := 0 }) := by unfold tickW; rw [if_pos h, if_pos h2]
theorem tickW_beat (s : RS) (h : s.x.ro = 3) (h2 : s.x.be + 1 < 2) : tickW s = (withX s { s.x with be := s.x.be + 1 }) := by unfold tickW; rw [if_pos h, if_neg (by omega)]
theorem tickW_ask (s : RS) (h : ¬ s.x.ro = 3) (h2 : (memS s).contains s.x.id = true) (h3 : tmo s.x.id s.x.te ≤ s.x.si + 1) : tickW s = askS (withX s { s.x with si := 0 }) := by unfold tickW; rw [if_neg h, if_pos ⟨h2, h3⟩]
theorem tickW_wait (s : RS) (h : ¬ s.x.ro = 3) (h3 : s.x.si + 1 < tmo s.x.id s.x.te) : tickW s = (withX s { s.x with si := s.x.si + 1 }) := by unfold tickW; rw [if_neg h, if_neg fun h9 => by have := h9.2; omega]
theorem tickW_out (s : RS) (h : ¬ s.x.ro = 3) (h2 : (memS s).contains s.x.id = false) : tickW s = (withX s { s.x with si := s.x.si + 1 }) := by unfold tickW; rw [if_neg h, if_neg fun h9 => by rw [h2] at h9; exact absurd h9.1 (by decide)]
theorem whas_b (v : Value) (l : List Int) (n : Int) (w : World) (hv : IsNums .i64 w v l) (hl : l.length ≤ 1000) :
   Calls Tryz.prog 54 #[v, .int .i64 n] w fun e w' => e = .returned (.bool (l.contains n)) ∧ Below w.heap.size w w' := by
 refine (rhas_any v l n w hv hl).mono ?_
 rintro e w' ⟨rfl, rfl⟩; exact ⟨rfl, Below.refl _ _⟩
theorem wtimeout_b (n t : Int) (w : World) (n0 : -9223372036854775808 ≤ n) (n1 : n ≤ 9223372036854775807) (t0 : -9223372036854775808 ≤ t) (t1 : t ≤ 9223372036854775807) :
   Calls Tryz.prog 55 #[.int .i64 n, .int .i64 t] w fun e w' => e = .returned (.int .i64 (tmo n t)) ∧ Below w.heap.size w w' := by
 refine (ref_timeout_any n t w n0 n1 t0 t1).mono ?_
 rintro e w' ⟨rfl, rfl⟩; exact ⟨rfl, Below.refl _ _⟩
set_option maxRecDepth 100000
set_option maxHeartbeats 4000000
theorem wtick_s (X : Cx) (R : Nat) (s : RS) (p : RP) (w0 : World) (hk : ROk s) (hw : WLS s) (hnx : s.x.ro = 3 → ∀ n ∈ othS s, s.bi < nx s.x n ∧ nx s.x n ≤ 1000000000000000000) (m0 : MemOk X w0 (rwM R s p) w0) :
   Calls Tryz.prog 19 #[.pointer (some ⟨R, 0, none⟩)] w0 fun e w' => ∃ p' o', e = .returned (.agg #[.slice o'.pm ((tickW s).ms.map rmD).length o'.cm, .slice o'.pq ((tickW s).rs.map rrD).length o'.cq, .bool (tickW s).re]) ∧ MemOk X w0 (ouM (tickW s) o' (rwM R (clrS (tickW s)) (nilP p'))) w' := by
 refine enter (fn := Tryz.f19) Tryz.func19 rfl Tryz.ntmps19 rfl (fun Az Hz => ?_)
 simp only [List.zipIdx_cons, List.zipIdx_nil, List.map_cons, List.map_nil, Nat.reduceAdd, Nat.zero_add] at Hz
 have hte := hk.te
 have hid := hk.id
 have hsi := hk.si
 have hbe := hk.be
 refine wp_seq_k (fun K0 hK0 => ?_)
 refine wp_region_lit ?_
 refine wpList_plain rfl (fun K hK => ?_)
 refine e_alloc Hz m0 30 zc48wti rfl ?_
 clear Hz Az m0; intro g1 Az w2 Hz m2 hB2 hg2
 clear hB2 hg2
 refine hK _ _ ?_; clear hK K
 refine wpList_nil ?_
 refine hK0 _ _ ?_; clear hK0; try clear K0
 refine wp_seq_k (fun K1 hK1 => ?_)
 refine regS Hz (.move rfl <| .nilCheck rfl <| .fieldAddr (off := 7) rfl Tryz.underlying91 rfl (s := 0) (by kernel_rfl) rfl <| .loadB1 m2 (i := 1) rfl rfl rfl Tryz.underlying3 rfl <| .eql rfl rfl <| .nil) ?_
 clear Hz Az; intro Az Hz
 refine bool_cases Hz (t := 7) rfl ?_ ?_
 ·
  clear Hz; intro hb8 Hz
  try simp only [Q1x, Q2x, Q3x, Q4x, Q5x, Q6x, Q7x, Q8x, Q9x, Q0x, Qax, Qbx] at hb8
  refine wp_cond_true (Hz.ev (x := .tmp 7) rfl) ?_
  refine wp_seq_k (fun K2 hK2 => ?_)
  refine wp_region_lit ?_
  refine goCh Hz (.move rfl <| .nilCheck rfl <| .fieldAddr (off := 25) rfl Tryz.underlying91 rfl (s := 0) (by kernel_rfl) rfl <| .loadB1 m2 (i := 1) rfl rfl rfl Tryz.underlying3 rfl <| .add rfl rfl (r := s.x.be + 1) (IntWalk.i64_in (s.x.be + 1) (by omega)) <| .nilCheck rfl <| .fieldAddr (off := 25) rfl Tryz.underlying91 rfl (s := 0) (by kernel_rfl) rfl <| .nil) ?_
  clear Hz Az; intro Az Hz
  refine wpList_plain rfl (fun K hK => ?_)
  refine e_store1 Hz m2 1 rfl rfl rfl rfl rfl sz3wti (by dsimp only [List.set] <;> rfl) ?_
  clear m2; intro w23 m23 hB23
  clear hB23
  refine hK _ _ ?_; clear hK K
  refine wpList_nil ?_
  refine hK2 _ _ ?_; clear hK2; try clear K2
  refine wp_seq_k (fun K3 hK3 => ?_)
  replace Hz : Has 65 [(0, _), (2, _), (7, _)] Az := Hz.only [0, 2, 7]
  refine regS Hz (.move rfl <| .nilCheck rfl <| .fieldAddr (off := 25) rfl Tryz.underlying91 rfl (s := 0) (by kernel_rfl) rfl <| .loadB1 m23 (i := 1) rfl rfl rfl Tryz.underlying3 rfl <| .geq rfl rfl <| .nil) ?_
  clear Hz Az; intro Az Hz
  refine bool_cases Hz (t := 19) rfl ?_ ?_
  ·
   clear Hz; intro hb30 Hz
   try simp only [Q1x, Q2x, Q3x, Q4x, Q5x, Q6x, Q7x, Q8x, Q9x, Q0x, Qax, Qbx] at hb30
   refine wp_cond_true (Hz.ev (x := .tmp 19) rfl) ?_
   refine wp_seq_k (fun K4 hK4 => ?_)
   refine wp_region_lit ?_
   refine goCh Hz (.move rfl <| .nilCheck rfl <| .fieldAddr (off := 25) rfl Tryz.underlying91 rfl (s := 0) (by kernel_rfl) rfl <| .nil) ?_
   clear Hz Az; intro Az Hz
   refine wpList_plain rfl (fun K hK => ?_)
   refine e_store1 Hz m23 1 rfl rfl rfl rfl rfl sz3wti (by dsimp only [List.set] <;> rfl) ?_
   clear m23; intro w37 m37 hB37
   clear hB37
   refine hK _ _ ?_; clear hK K
   refine wpList_nil ?_
   refine hK4 _ _ ?_; clear hK4; try clear K4
   replace Hz : Has 65 [(0, _), (2, _), (7, _), (19, _)] Az := Hz.only [0, 2, 7, 19]
   refine wp_region_lit ?_
   refine goCh Hz (.move rfl .nil) ?_
   clear Hz Az; intro Az Hz
   refine wpList_plain rfl (fun K hK => ?_)
   refine e_call Hz Tryz.func52 rfl rfl rfl rfl (wwords_s _ R (withX s { s.x with be := 0 }) p _ hk.l hw (by have := hk.ms; show s.ms.length ≤ _; omega) (hnx hb8) (m37.into [(1, 1), (2, 2), (3, 3), (4, 4), (5, 5), (6, 6), (7, 7), (8, 8)] (by decide) rfl)) ?_
   rintro e w40 ⟨p1, rfl, hm40⟩
   have mx40 := m37.back hm40 [(1, 1), (2, 2), (3, 3), (4, 4), (5, 5), (6, 6), (7, 7), (8, 8)] (by decide); clear hm40 m37
   have m40 : MemOk _ _ [(1, _), (2, _), (3, _), (4, _), (5, _), (6, _), (7, _), (8, _), (30, _)] _ := mx40.only [1, 2, 3, 4, 5, 6, 7, 8, 30]; clear mx40
   refine ⟨_, rfl, ?_⟩; clear Hz Az; intro Az Hz
   refine hK _ _ ?_; clear hK K
   refine wpList_nil ?_
   refine hK3 _ _ ?_; clear hK3; try clear K3
   refine wp_seq_k (fun K5 hK5 => ?_)
   refine wp_region_lit ?_
   refine goCh Hz (.move rfl .nil) ?_
   clear Hz Az; intro Az Hz
   refine wpList_plain rfl (fun K hK => ?_)
   refine e_call Hz Tryz.func53 rfl rfl rfl rfl (wsaid_s _ R (tellS (withX s { s.x with be := 0 })) p1 _ (m40.into [(1, 1), (2, 2), (3, 3), (4, 4), (5, 5), (6, 6), (7, 7), (8, 8)] (by decide) rfl)) ?_
   rintro e w44 ⟨p9, o9, rfl, hm44⟩
   have mx44 := m40.back hm44 [(1, 1), (2, 2), (3, 3), (4, 4), (5, 5), (6, 6), (7, 7), (8, 8), (11, 11), (12, 12)] (by decide); clear hm44 m40
   have m44 : MemOk _ _ [(1, _), (2, _), (3, _), (4, _), (5, _), (6, _), (7, _), (8, _), (11, _), (12, _), (30, _)] _ := mx44.only [1, 2, 3, 4, 5, 6, 7, 8, 11, 12, 30]; clear mx44
   refine ⟨_, rfl, ?_⟩; clear Hz Az; intro Az Hz
   refine hK _ _ ?_; clear hK K
   refine wpList_plain rfl (fun K hK => ?_)
   refine e_storeW Hz m44 30 rfl rfl rfl rfl rfl sz48wti ?_
   clear m44; intro w46 m46 hB46
   clear hB46
   refine hK _ _ ?_; clear hK K
   refine wpList_nil ?_
   refine hK5 _ _ ?_; clear hK5; try clear K5
   refine wp_ret ?_
   try dsimp only [Exit.then, Exit.inBlock]
   refine (retC (fn := Tryz.f19) Hz m46 (i := 30) rfl rfl rfl Tryz.underlying48 rfl sz48wti ?_)
   rw [tickW_tell s hb8 hb30]
   exact ⟨p9, o9, rfl, m46.only [11, 12, 1, 2, 3, 4, 5, 6, 7, 8]⟩
  ·
   clear Hz; intro hb30 Hz
   try simp only [Q1x, Q2x, Q3x, Q4x, Q5x, Q6x, Q7x, Q8x, Q9x, Q0x, Qax, Qbx] at hb30
   refine wp_cond_false (Hz.ev (x := .tmp 19) rfl) ?_
   refine wp_skip ?_
   refine hK3 _ _ ?_; clear hK3; try clear K3
   refine wp_seq_k (fun K6 hK6 => ?_)
   refine wp_region_lit ?_
   refine goCh Hz (.move rfl .nil) ?_
   clear Hz Az; intro Az Hz
   refine wpList_plain rfl (fun K hK => ?_)
   refine e_call Hz Tryz.func53 rfl rfl rfl rfl (wsaid_s _ R (withX s { s.x with be := s.x.be + 1 }) p _ (m23.into [(1, 1), (2, 2), (3, 3), (4, 4), (5, 5), (6, 6), (7, 7), (8, 8)] (by decide) rfl)) ?_
   rintro e w49 ⟨p9, o9, rfl, hm49⟩
   have mx49 := m23.back hm49 [(1, 1), (2, 2), (3, 3), (4, 4), (5, 5), (6, 6), (7, 7), (8, 8), (11, 11), (12, 12)] (by decide); clear hm49 m23
   have m49 : MemOk _ _ [(1, _), (2, _), (3, _), (4, _), (5, _), (6, _), (7, _), (8, _), (11, _), (12, _), (30, _)] _ := mx49.only [1, 2, 3, 4, 5, 6, 7, 8, 11, 12, 30]; clear mx49
   refine ⟨_, rfl, ?_⟩; clear Hz Az; intro Az Hz
   refine hK _ _ ?_; clear hK K
   refine wpList_plain rfl (fun K hK => ?_)
   refine e_storeW Hz m49 30 rfl rfl rfl rfl rfl sz48wti ?_
   clear m49; intro w51 m51 hB51
   clear hB51
   refine hK _ _ ?_; clear hK K
   refine wpList_nil ?_
   refine hK6 _ _ ?_; clear hK6; try clear K6
   refine wp_ret ?_
   try dsimp only [Exit.then, Exit.inBlock]
   refine (retC (fn := Tryz.f19) Hz m51 (i := 30) rfl rfl rfl Tryz.underlying48 rfl sz48wti ?_)
   rw [tickW_beat s hb8 hb30]
   exact ⟨p9, o9, rfl, m51.only [11, 12, 1, 2, 3, 4, 5, 6, 7, 8]⟩
 ·
  clear Hz; intro hb8 Hz
  try simp only [Q1x, Q2x, Q3x, Q4x, Q5x, Q6x, Q7x, Q8x, Q9x, Q0x, Qax, Qbx] at hb8
  refine wp_cond_false (Hz.ev (x := .tmp 7) rfl) ?_
  refine wp_skip ?_
  refine hK1 _ _ ?_; clear hK1; try clear K1
  refine wp_seq_k (fun K7 hK7 => ?_)
  refine wp_region_lit ?_
  refine goCh Hz (.move rfl <| .nilCheck rfl <| .fieldAddr (off := 24) rfl Tryz.underlying91 rfl (s := 0) (by kernel_rfl) rfl <| .loadB1 m2 (i := 1) rfl rfl rfl Tryz.underlying3 rfl <| .add rfl rfl (r := s.x.si + 1) (IntWalk.i64_in (s.x.si + 1) (by omega)) <| .nilCheck rfl <| .fieldAddr (off := 24) rfl Tryz.underlying91 rfl (s := 0) (by kernel_rfl) rfl <| .nil) ?_
  clear Hz Az; intro Az Hz
  refine wpList_plain rfl (fun K hK => ?_)
  refine e_store1 Hz m2 1 rfl rfl rfl rfl rfl sz3wti (by dsimp only [List.set] <;> rfl) ?_
  clear m2; intro w66 m66 hB66
  clear hB66
  refine hK _ _ ?_; clear hK K
  refine wpList_nil ?_
  refine hK7 _ _ ?_; clear hK7; try clear K7
  refine wp_seq_k (fun K8 hK8 => ?_)
  refine wp_seq_k (fun K9 hK9 => ?_)
  replace Hz : Has 65 [(0, _), (2, _), (7, _)] Az := Hz.only [0, 2, 7]
  have m68 : MemOk _ _ [(1, _), (2, _), (3, _), (4, _), (5, _), (6, _), (7, _), (8, _), (30, _)] _ := m66.only [1, 2, 3, 4, 5, 6, 7, 8, 30]; clear m66
  refine region_p 24 (B := [(1, _), (2, _), (3, _), (4, _), (5, _), (6, _), (7, _), (8, _), (30, _)]) (m68.to ⟨il, il, il, il, il, il, il, il, il, trivial⟩) m68 (by kernel_rfl) (fun w69 hP69 m69 => ?_); clear m68
  refine goR hP69 [0, 2, 3, 4, 5] [5] 5 0 61 Hz (m69.to ⟨il, il, il, il, il, il, il, il, il, trivial⟩) (.move rfl <| .move rfl <| .nilCheck rfl <| .fieldAddr (off := 0) rfl Tryz.underlying91 rfl (s := 0) (by kernel_rfl) rfl <| .loadB1 hh (i := 1) rfl rfl rfl Tryz.underlying3 rfl <| .nil) ?_
  clear Hz Az; intro Az Hz
  refine stepE_only 1 rfl (by kernel_rfl) rfl (fun K hK => ?_)
  refine e_call Hz Tryz.func43 rfl rfl rfl rfl (wrmem_s R (withX s { s.x with si := s.x.si + 1 }) p _ (rwM_is (withX s { s.x with si := s.x.si + 1 }) p (m69.into [(1, 1), (2, 2), (3, 3), (4, 4), (5, 5), (6, 6), (7, 7), (8, 8)] (by decide) rfl)) hk.l hw) ?_
  rintro e w75 ⟨p75, c75, rfl, hd75, hb75⟩
  have m76 := m69.callF 31 rfl hb75 hd75
  clear m69
  clear hb75 hd75
  refine ⟨_, rfl, ?_⟩; clear Hz Az; intro Az Hz
  refine hK _ _ (m76.to ⟨il, il, il, il, il, il, il, il, il, trivial⟩) ?_; clear hK K
  refine stepE_only 6 rfl (by kernel_rfl) rfl (fun K hK => ?_)
  refine e_call Hz Tryz.func54 rfl rfl rfl rfl (whas_b _ (memS s) s.x.id _ (m76.nums (i := 31) rfl) (Nat.le_trans (memS_len s) (by decide))) ?_
  rintro e w78 ⟨rfl, hb78⟩
  have m79 := m76.later hb78
  clear m76
  clear hb78
  refine ⟨_, rfl, ?_⟩; clear Hz Az; intro Az Hz
  refine hK _ _ (m79.to ⟨il, il, il, il, il, il, il, il, il, trivial⟩) ?_; clear hK K
  refine goA hP69 [7] 1 127 255 Hz (m79.to ⟨il, il, il, il, il, il, il, il, il, trivial⟩) (.move rfl <| .nil) ?_
  clear Hz Az; intro Az Hz
  refine bool_cases Hz (t := 41) rfl ?_ ?_
  ·
   clear Hz; intro hb82 Hz
   try simp only [Q1x, Q2x, Q3x, Q4x, Q5x, Q6x, Q7x, Q8x, Q9x, Q0x, Qax, Qbx] at hb82
   refine goR hP69 [8, 9, 10, 11, 12, 13, 14, 15, 16, 17, 18, 19, 20] [11, 15, 20] 13 255 2097151 Hz (m79.to ⟨il, il, il, il, il, il, il, il, il, trivial⟩) (.move rfl <| .nilCheck rfl <| .fieldAddr (off := 24) rfl Tryz.underlying91 rfl (s := 0) (by kernel_rfl) rfl <| .loadB1 hh (i := 1) rfl rfl rfl Tryz.underlying3 rfl <| .move rfl <| .nilCheck rfl <| .fieldAddr (off := 0) rfl Tryz.underlying91 rfl (s := 0) (by kernel_rfl) rfl <| .loadB1 hh (i := 1) rfl rfl rfl Tryz.underlying3 rfl <| .move rfl <| .nilCheck rfl <| .fieldAddr (off := 2) rfl Tryz.underlying91 rfl (s := 1) (by kernel_rfl) rfl <| .fieldAddr (off := 2) rfl Tryz.underlying25 rfl (s := 0) (by kernel_rfl) rfl <| .loadB1 hh (i := 1) rfl rfl rfl Tryz.underlying3 rfl <| .nil) ?_
   clear Hz Az; intro Az Hz
   refine stepE_only 21 rfl (by kernel_rfl) (wantedG Hz rfl rfl rfl rfl) (fun K hK => ?_)
   refine e_call Hz Tryz.func55 rfl rfl rfl rfl (wtimeout_b s.x.id s.x.te _ (by omega) (by omega) (by omega) (by omega)) ?_
   rintro e w96 ⟨rfl, hb96⟩
   have m97 := m79.later hb96
   clear m79
   clear hb96
   refine ⟨_, rfl, ?_⟩; clear Hz Az; intro Az Hz
   refine hK _ _ (m97.to ⟨il, il, il, il, il, il, il, il, il, trivial⟩) ?_; clear hK K
   refine goA hP69 [22, 23] 2 4194303 16777215 Hz (m97.to ⟨il, il, il, il, il, il, il, il, il, trivial⟩) (.geq rfl rfl <| .pickT rfl rfl <| .nil) ?_
   clear Hz Az; intro Az Hz
   refine wpAnyE_done (by kernel_rfl) ?_ _
   refine hK9 _ _ ?_; clear hK9; try clear K9
   refine bool_cases Hz (t := 57) rfl ?_ ?_
   ·
    clear Hz; intro hb101 Hz
    try simp only [Q1x, Q2x, Q3x, Q4x, Q5x, Q6x, Q7x, Q8x, Q9x, Q0x, Qax, Qbx] at hb101
    refine wp_cond_true (Hz.ev (x := .tmp 57) rfl) ?_
    replace Hz : Has 65 [(0, _), (2, _), (7, _), (40, _), (41, _), (48, _), (56, _), (57, _)] Az := Hz.only [0, 2, 7, 40, 41, 48, 56, 57]
    refine wp_seq_k (fun K10 hK10 => ?_)
    refine wp_region_lit ?_
    refine goCh Hz (.move rfl <| .nilCheck rfl <| .fieldAddr (off := 24) rfl Tryz.underlying91 rfl (s := 0) (by kernel_rfl) rfl <| .nil) ?_
    clear Hz Az; intro Az Hz
    refine wpList_plain rfl (fun K hK => ?_)
    refine e_store1 Hz m97 1 rfl rfl rfl rfl rfl sz3wti (by dsimp only [List.set] <;> rfl) ?_
    clear m97; intro w109 m109 hB109
    clear hB109
    refine hK _ _ ?_; clear hK K
    refine wpList_nil ?_
    refine hK10 _ _ ?_; clear hK10; try clear K10
    refine wp_region_lit ?_
    refine goCh Hz (.move rfl .nil) ?_
    clear Hz Az; intro Az Hz
    refine wpList_plain rfl (fun K hK => ?_)
    refine e_call Hz Tryz.func56 rfl rfl rfl rfl (wask_s _ R (withX s { s.x with si := 0 }) p _ (hk.si0) hw (m109.into [(1, 1), (2, 2), (3, 3), (4, 4), (5, 5), (6, 6), (7, 7), (8, 8)] (by decide) rfl)) ?_
    rintro e w111 ⟨p1, rfl, hm111⟩
    have mx111 := m109.back hm111 [(1, 1), (2, 2), (3, 3), (4, 4), (5, 5), (6, 6), (7, 7), (8, 8)] (by decide); clear hm111 m109
    have m111 : MemOk _ _ [(1, _), (2, _), (3, _), (4, _), (5, _), (6, _), (7, _), (8, _), (30, _), (31, _)] _ := mx111.only [1, 2, 3, 4, 5, 6, 7, 8, 30, 31]; clear mx111
    refine ⟨_, rfl, ?_⟩; clear Hz Az; intro Az Hz
    refine hK _ _ ?_; clear hK K
    refine wpList_nil ?_
    refine hK8 _ _ ?_; clear hK8; try clear K8
    refine wp_seq_k (fun K11 hK11 => ?_)
    refine wp_region_lit ?_
    refine goCh Hz (.move rfl .nil) ?_
    clear Hz Az; intro Az Hz
    refine wpList_plain rfl (fun K hK => ?_)
    refine e_call Hz Tryz.func53 rfl rfl rfl rfl (wsaid_s _ R (askS (withX s { s.x with si := 0 })) p1 _ (m111.into [(1, 1), (2, 2), (3, 3), (4, 4), (5, 5), (6, 6), (7, 7), (8, 8)] (by decide) rfl)) ?_
    rintro e w115 ⟨p9, o9, rfl, hm115⟩
    have mx115 := m111.back hm115 [(1, 1), (2, 2), (3, 3), (4, 4), (5, 5), (6, 6), (7, 7), (8, 8), (11, 11), (12, 12)] (by decide); clear hm115 m111
    have m115 : MemOk _ _ [(1, _), (2, _), (3, _), (4, _), (5, _), (6, _), (7, _), (8, _), (11, _), (12, _), (30, _), (31, _)] _ := mx115.only [1, 2, 3, 4, 5, 6, 7, 8, 11, 12, 30, 31]; clear mx115
    refine ⟨_, rfl, ?_⟩; clear Hz Az; intro Az Hz
    refine hK _ _ ?_; clear hK K
    refine wpList_plain rfl (fun K hK => ?_)
    refine e_storeW Hz m115 30 rfl rfl rfl rfl rfl sz48wti ?_
    clear m115; intro w117 m117 hB117
    clear hB117
    refine hK _ _ ?_; clear hK K
    refine wpList_nil ?_
    refine hK11 _ _ ?_; clear hK11; try clear K11
    refine wp_ret ?_
    try dsimp only [Exit.then, Exit.inBlock]
    refine (retC (fn := Tryz.f19) Hz m117 (i := 30) rfl rfl rfl Tryz.underlying48 rfl sz48wti ?_)
    rw [tickW_ask s hb8 hb82 hb101]
    exact ⟨p9, o9, rfl, m117.only [11, 12, 1, 2, 3, 4, 5, 6, 7, 8]⟩
   ·
    clear Hz; intro hb101 Hz
    try simp only [Q1x, Q2x, Q3x, Q4x, Q5x, Q6x, Q7x, Q8x, Q9x, Q0x, Qax, Qbx] at hb101
    refine wp_cond_false (Hz.ev (x := .tmp 57) rfl) ?_
    refine wp_skip ?_
    refine hK8 _ _ ?_; clear hK8; try clear K8
    replace Hz : Has 65 [(0, _), (2, _), (7, _), (40, _), (41, _), (48, _), (56, _), (57, _)] Az := Hz.only [0, 2, 7, 40, 41, 48, 56, 57]
    refine wp_seq_k (fun K12 hK12 => ?_)
    refine wp_region_lit ?_
    refine goCh Hz (.move rfl .nil) ?_
    clear Hz Az; intro Az Hz
    refine wpList_plain rfl (fun K hK => ?_)
    refine e_call Hz Tryz.func53 rfl rfl rfl rfl (wsaid_s _ R (withX s { s.x with si := s.x.si + 1 }) p _ (m97.into [(1, 1), (2, 2), (3, 3), (4, 4), (5, 5), (6, 6), (7, 7), (8, 8)] (by decide) rfl)) ?_
    rintro e w121 ⟨p9, o9, rfl, hm121⟩
    have mx121 := m97.back hm121 [(1, 1), (2, 2), (3, 3), (4, 4), (5, 5), (6, 6), (7, 7), (8, 8), (11, 11), (12, 12)] (by decide); clear hm121 m97
    have m121 : MemOk _ _ [(1, _), (2, _), (3, _), (4, _), (5, _), (6, _), (7, _), (8, _), (11, _), (12, _), (30, _), (31, _)] _ := mx121.only [1, 2, 3, 4, 5, 6, 7, 8, 11, 12, 30, 31]; clear mx121
    refine ⟨_, rfl, ?_⟩; clear Hz Az; intro Az Hz
    refine hK _ _ ?_; clear hK K
    refine wpList_plain rfl (fun K hK => ?_)
    refine e_storeW Hz m121 30 rfl rfl rfl rfl rfl sz48wti ?_
    clear m121; intro w123 m123 hB123
    clear hB123
    refine hK _ _ ?_; clear hK K
    refine wpList_nil ?_
    refine hK12 _ _ ?_; clear hK12; try clear K12
    refine wp_ret ?_
    try dsimp only [Exit.then, Exit.inBlock]
    refine (retC (fn := Tryz.f19) Hz m123 (i := 30) rfl rfl rfl Tryz.underlying48 rfl sz48wti ?_)
    rw [tickW_wait s hb8 hb101]
    exact ⟨p9, o9, rfl, m123.only [11, 12, 1, 2, 3, 4, 5, 6, 7, 8]⟩
  ·
   clear Hz; intro hb82 Hz
   try simp only [Q1x, Q2x, Q3x, Q4x, Q5x, Q6x, Q7x, Q8x, Q9x, Q0x, Qax, Qbx] at hb82
   refine goA hP69 [8, 9, 10, 11, 12, 13, 14, 15, 16, 17, 18, 19, 20, 21, 22, 23] 16 255 16777215 Hz (m79.to ⟨il, il, il, il, il, il, il, il, il, trivial⟩) (.s <| .s <| .s <| .s <| .s <| .s <| .s <| .s <| .s <| .s <| .s <| .s <| .s <| .s <| .s <| .pickF rfl rfl <| .nil) ?_
   clear Hz Az; intro Az Hz
   refine wpAnyE_done (by kernel_rfl) ?_ _
   refine hK9 _ _ ?_; clear hK9; try clear K9
   refine wp_cond_false (Hz.ev (x := .tmp 57) rfl) ?_
   refine wp_skip ?_
   refine hK8 _ _ ?_; clear hK8; try clear K8
   replace Hz : Has 65 [(0, _), (2, _), (7, _), (40, _), (41, _), (48, _), (56, _), (57, _)] Az := Hz.only [0, 2, 7, 40, 41, 48, 56, 57]
   refine wp_seq_k (fun K13 hK13 => ?_)
   refine wp_region_lit ?_
   refine goCh Hz (.move rfl .nil) ?_
   clear Hz Az; intro Az Hz
   refine wpList_plain rfl (fun K hK => ?_)
   refine e_call Hz Tryz.func53 rfl rfl rfl rfl (wsaid_s _ R (withX s { s.x with si := s.x.si + 1 }) p _ (m79.into [(1, 1), (2, 2), (3, 3), (4, 4), (5, 5), (6, 6), (7, 7), (8, 8)] (by decide) rfl)) ?_
   rintro e w143 ⟨p9, o9, rfl, hm143⟩
   have mx143 := m79.back hm143 [(1, 1), (2, 2), (3, 3), (4, 4), (5, 5), (6, 6), (7, 7), (8, 8), (11, 11), (12, 12)] (by decide); clear hm143 m79
   have m143 : MemOk _ _ [(1, _), (2, _), (3, _), (4, _), (5, _), (6, _), (7, _), (8, _), (11, _), (12, _), (30, _), (31, _)] _ := mx143.only [1, 2, 3, 4, 5, 6, 7, 8, 11, 12, 30, 31]; clear mx143
   refine ⟨_, rfl, ?_⟩; clear Hz Az; intro Az Hz
   refine hK _ _ ?_; clear hK K
   refine wpList_plain rfl (fun K hK => ?_)
   refine e_storeW Hz m143 30 rfl rfl rfl rfl rfl sz48wti ?_
   clear m143; intro w145 m145 hB145
   clear hB145
   refine hK _ _ ?_; clear hK K
   refine wpList_nil ?_
   refine hK13 _ _ ?_; clear hK13; try clear K13
   refine wp_ret ?_
   try dsimp only [Exit.then, Exit.inBlock]
   refine (retC (fn := Tryz.f19) Hz m145 (i := 30) rfl rfl rfl Tryz.underlying48 rfl sz48wti ?_)
   rw [tickW_out s hb8 hb82]
   exact ⟨p9, o9, rfl, m145.only [11, 12, 1, 2, 3, 4, 5, 6, 7, 8]⟩
end
section
theorem ps55wrv : placesS Tryz.prog 55 = some [(0, 1), (1, 1), (2, 1), (3, 1), (4, 1), (5, 1), (6, 1), (7, 1), (8, 1), (9, 1), (10, 4), (14, 1), (15, 1), (16, 1), (17, 1), (18, 1)] := by kernel_rfl
theorem sz3wrv : (Tryz.prog.info? 3).map (·.size) = some 1 := by kernel_rfl
theorem sz55wrv : (Tryz.prog.info? 55).map (·.size) = some 19 := by kernel_rfl
theorem zc55wrv : ((Tryz.prog.info? 55).bind (·.zero)).map (·.cells.toList) = some [.int .i64 0, .int .i64 0, .int .i64 0, .int .i64 0, .int .i64 0, .int .i64 0, .int .i64 0, .int .i64 0, .bool false, .slice none 0 0, .int .i64 0, .int .i64 0, .slice none 0 0, .slice none 0 0, .slice none 0 0, .int .i64 0, .int .i64 0, .int .i64 0, .int .i64 0] := by kernel_rfl

theorem wnewer_b (a b c d : Int) (w : World) :
   Calls Tryz.prog 104 #[.int .i64 a, .int .i64 b, .int .i64 c, .int .i64 d] w fun e w' => e = .returned (.bool (newer a b c d)) ∧ Below w.heap.size w w' := by
 refine (ref_newer_any a b c d w).mono ?_
 rintro e w' ⟨rfl, rfl⟩; exact ⟨rfl, Below.refl _ _⟩
def dnS (s : RS) (te : Int) : RS := if s.x.te < te then hardS (withX s { s.x with ro := 0, le := -1, te := te, vo := -1 }) else s
theorem dn_yes (s : RS) {te : Int} (h : s.x.te < te) : hardS (withX s { s.x with ro := 0, le := -1, te := te, vo := -1 }) = dnS s te := (if_pos h).symm
theorem dn_no (s : RS) {te : Int} (h : te ≤ s.x.te) : s = dnS s te := (if_neg (by omega)).symm
def voteB (s : RS) (f ix lt : Int) : Bool := (decide (s.x.vo < 0) || decide (s.x.vo = f)) && newer lt ix (termS s (lastS s)) (lastS s)
def grantS (s : RS) (f : Int) : RS := let s3 := if s.x.vo = f then s else hardS (withX s { s.x with vo := f }); withX s3 { s3.x with si := 0 }
abbrev vRep (s : RS) (f : Int) (ok : Bool) : RS := addM s [toM s f ⟨4, 0, 0, 0, s.x.te, 0, 0, 0, ok, [], 0, 0, [], [], [], 0, 0, 0, 0⟩]
def voteW1 (s : RS) (f te ix lt : Int) : RS :=
 if te < s.x.te then vRep s f false else
   let ok := voteB s f ix lt
   let s2 := if ok = true then grantS s f else s
   vRep s2 f ok
def voteW (s : RS) (f te ix lt : Int) : RS := voteW1 (dnS s te) f te ix lt
theorem vb_a (s : RS) (f ix lt : Int) (h : s.x.vo < 0) : newer lt ix (termS s (lastS s)) (lastS s) = voteB s f ix lt := by unfold voteB; rw [decide_eq_true h]; rfl
theorem vb_b (s : RS) (f ix lt : Int) (h : s.x.vo = f) : newer lt ix (termS s (lastS s)) (lastS s) = voteB s f ix lt := by unfold voteB; rw [decide_eq_true h, Bool.or_true]; rfl
theorem vb_c (s : RS) (f ix lt : Int) (h : 0 ≤ s.x.vo) (h2 : ¬ s.x.vo = f) : false = voteB s f ix lt := by unfold voteB; rw [decide_eq_false (show ¬ s.x.vo < 0 by omega), decide_eq_false h2]; rfl
theorem gr_a (s : RS) (f : Int) (h : s.x.vo = f) : withX s { s.x with si := 0 } = grantS s f := by unfold grantS; rw [if_pos h]
theorem gr_ms (s : RS) (f : Int) (ok : Bool) : (if ok = true then grantS s f else s).ms = s.ms := by
 unfold grantS; (repeat' split) <;> rfl
theorem gr_b (s : RS) (f : Int) (h : ¬ s.x.vo = f) : withX (hardS (withX s { s.x with vo := f })) { (hardS (withX s { s.x with vo := f })).x with si := 0 } = grantS s f := by unfold grantS; rw [if_neg h]
set_option maxRecDepth 100000
set_option maxHeartbeats 4000000
theorem wnewer_s (R : Nat) (s : RS) (p : RP) (w0 : World) (h : WIs w0 R s p) (hb : RLS s) (k gm f t te ix lt co : Int) (ok : Bool) :
   Calls Tryz.prog 61 #[.pointer (some ⟨R, 0, none⟩), .agg #[.int .i64 k, .int .i64 gm, .int .i64 f, .int .i64 t, .int .i64 te, .int .i64 ix, .int .i64 lt, .int .i64 co, .bool ok, .slice none 0 0, .int .i64 0, .int .i64 0, .slice none 0 0, .slice none 0 0, .slice none 0 0, .int .i64 0, .int .i64 0, .int .i64 0, .int .i64 0]] w0 fun e w' => e = .returned (.bool (newer lt ix (termS s (lastS s)) (lastS s))) ∧ Below w0.heap.size w0 w' := by
 refine enter (fn := Tryz.f61) Tryz.func61 rfl Tryz.ntmps61 rfl (fun Az Hz => ?_)
 simp only [List.zipIdx_cons, List.zipIdx_nil, List.map_cons, List.map_nil, Nat.reduceAdd, Nat.zero_add] at Hz
 have m0 := MemOk.start (fun _ => False) w0
 have hR := h.r
 have hY := h.y
 have hB := h.b
 refine wp_seq_k (fun K0 hK0 => ?_)
 refine wp_region_lit ?_
 refine wpList_plain rfl (fun K hK => ?_)
 refine e_box Hz m0 50 (cs := [_, _, _, _, _, _, _, _, _, _, _, _, _, _, _, _, _, _, _]) rfl rfl rfl ?_
 clear Hz Az m0; intro g1 Az w2 Hz m2 hB2 hg2
 clear hB2 hg2
 refine hK _ _ ?_; clear hK K
 refine goCh Hz (.assign rfl .nil) ?_
 clear Hz Az; intro Az Hz
 refine wpList_nil ?_
 refine hK0 _ _ ?_; clear hK0; try clear K0
 refine wp_seq_k (fun K1 hK1 => ?_)
 have m4 : MemOk _ _ [(50, _)] _ := m2.only [50]; clear m2
 refine region_p 21 (B := [(50, _)]) (m4.to ⟨il, trivial⟩) m4 (by kernel_rfl) (fun w5 hP5 m5 => ?_); clear m4
 refine goR hP5 [0, 1, 2, 3, 4, 5, 6, 7, 8, 9, 10, 11, 14, 15, 16, 17] [1, 3, 7, 11, 17] 16 0 249855 Hz (m5.to ⟨il, trivial⟩) (.fieldAddr (off := 6) rfl Tryz.underlying55 rfl (s := 0) (by kernel_rfl) rfl <| .loadB1 hh (i := 50) rfl rfl rfl Tryz.underlying3 rfl <| .fieldAddr (off := 5) rfl Tryz.underlying55 rfl (s := 0) (by kernel_rfl) rfl <| .loadB1 hh (i := 50) rfl rfl rfl Tryz.underlying3 rfl <| .move rfl <| .nilCheck rfl <| .fieldAddr (off := 4) rfl Tryz.underlying91 rfl (s := 0) (by kernel_rfl) rfl <| .loadX1 (fun _ h_ => (hR.now h_ rfl)) rfl rfl Tryz.underlying88 rfl <| .move rfl <| .nilCheck rfl <| .fieldAddr (off := 4) rfl Tryz.underlying91 rfl (s := 0) (by kernel_rfl) rfl <| .loadX1 (fun _ h_ => (hR.now h_ rfl)) rfl rfl Tryz.underlying88 rfl <| .move rfl <| .nilCheck rfl <| .fieldAddr (off := 4) rfl Tryz.underlying91 rfl (s := 0) (by kernel_rfl) rfl <| .loadX1 (fun _ h_ => (hR.now h_ rfl)) rfl rfl Tryz.underlying88 rfl <| .nil) ?_
 clear Hz Az; intro Az Hz
 refine stepE_only 12 rfl (by kernel_rfl) rfl (fun K hK => ?_)
 refine e_call Hz Tryz.func57 rfl rfl rfl rfl (wlast_s R s p _ (h.now m5) hb) ?_
 rintro e w22 ⟨rfl, hb22⟩
 have m23 := m5.later hb22
 clear m5
 clear hb22
 refine ⟨_, rfl, ?_⟩; clear Hz Az; intro Az Hz
 refine hK _ _ (m23.to ⟨il, trivial⟩) ?_; clear hK K
 refine stepE_only 13 rfl (by kernel_rfl) rfl (fun K hK => ?_)
 refine e_call Hz Tryz.func58 rfl rfl rfl rfl (wterm_s R s p _ (h.now m23) hb (lastS s)) ?_
 rintro e w25 ⟨rfl, hb25⟩
 have m26 := m23.later hb25
 clear m23
 clear hb25
 refine ⟨_, rfl, ?_⟩; clear Hz Az; intro Az Hz
 refine hK _ _ (m26.to ⟨il, trivial⟩) ?_; clear hK K
 refine stepE_only 18 rfl (by kernel_rfl) rfl (fun K hK => ?_)
 refine e_call Hz Tryz.func57 rfl rfl rfl rfl (wlast_s R s p _ (h.now m26) hb) ?_
 rintro e w28 ⟨rfl, hb28⟩
 have m29 := m26.later hb28
 clear m26
 clear hb28
 refine ⟨_, rfl, ?_⟩; clear Hz Az; intro Az Hz
 refine hK _ _ (m29.to ⟨il, trivial⟩) ?_; clear hK K
 refine stepE_only 19 rfl (by kernel_rfl) rfl (fun K hK => ?_)
 refine e_call Hz Tryz.func104 rfl rfl rfl rfl (wnewer_b _ _ _ _ _) ?_
 rintro e w31 ⟨rfl, hb31⟩
 have m32 := m29.later hb31
 clear m29
 clear hb31
 refine ⟨_, rfl, ?_⟩; clear Hz Az; intro Az Hz
 refine hK _ _ (m32.to ⟨il, trivial⟩) ?_; clear hK K
 refine goA hP5 [20] 1 1048575 2097151 Hz (m32.to ⟨il, trivial⟩) (.assign rfl <| .nil) ?_
 clear Hz Az; intro Az Hz
 refine wpAnyE_done (by kernel_rfl) ?_ _
 refine hK1 _ _ ?_; clear hK1; try clear K1
 refine wp_ret ?_
 try dsimp only [Exit.then, Exit.inBlock]
 refine (ret1 (fn := Tryz.f61) Hz rfl rfl ?_)
 exact ⟨rfl, m32.below⟩
theorem wrecvVote_s (X : Cx) (R : Nat) (s : RS) (p : RP) (gm f t te ix lt co : Int) (ok : Bool) (w0 : World) (hk : ROk s) (hkd : ROk (dnS s te)) (hwd : WLS (dnS s te)) (m0 : MemOk X w0 (rwM R s p) w0) :
   Calls Tryz.prog 66 #[.pointer (some ⟨R, 0, none⟩), .agg #[.int .i64 3, .int .i64 gm, .int .i64 f, .int .i64 t, .int .i64 te, .int .i64 ix, .int .i64 lt, .int .i64 co, .bool ok, .slice none 0 0, .int .i64 0, .int .i64 0, .slice none 0 0, .slice none 0 0, .slice none 0 0, .int .i64 0, .int .i64 0, .int .i64 0, .int .i64 0]] w0 fun e w' => ∃ p', e = .returned (.tuple #[]) ∧ MemOk X w0 (rwM R (voteW s f te ix lt) p') w' := by
 refine enter (fn := Tryz.f66) Tryz.func66 rfl Tryz.ntmps66 rfl (fun Az Hz => ?_)
 simp only [List.zipIdx_cons, List.zipIdx_nil, List.map_cons, List.map_nil, Nat.reduceAdd, Nat.zero_add] at Hz
 have hte := hk.te
 refine wp_seq_k (fun K0 hK0 => ?_)
 refine wp_region_lit ?_
 refine wpList_plain rfl (fun K hK => ?_)
 refine e_box Hz m0 30 (cs := [_, _, _, _, _, _, _, _, _, _, _, _, _, _, _, _, _, _, _]) rfl rfl rfl ?_
 clear Hz Az m0; intro g1 Az w2 Hz m2 hB2 hg2
 clear hB2 hg2
 refine hK _ _ ?_; clear hK K
 refine wpList_nil ?_
 refine hK0 _ _ ?_; clear hK0; try clear K0
 refine wp_seq_k (fun K1 hK1 => ?_)
 have hC1 : ∀ (a : Act) (w : World), (∃ (s1 : RS) (p1 : RP) (Bm : Nat), s1 = dnS s te ∧ Has 291 [(0, .pointer (some ⟨R, 0, none⟩)), (3, .pointer (some ⟨Bm, 0, none⟩))] a ∧ MemOk X w0 ((30, .box Bm 55 [.int .i64 3, .int .i64 gm, .int .i64 f, .int .i64 t, .int .i64 te, .int .i64 ix, .int .i64 lt, .int .i64 co, .bool ok, .slice none 0 0, .int .i64 0, .int .i64 0, .slice none 0 0, .slice none 0 0, .slice none 0 0, .int .i64 0, .int .i64 0, .int .i64 0, .int .i64 0]) :: rwM R s1 p1) w) → K1 a w := by
   clear Hz m2
   rintro Az w3 ⟨s1, p1, Bm, h1, Hz, m3⟩
   refine hK1 _ _ ?_; clear hK1; try clear K1
   refine wp_seq_k (fun K2 hK2 => ?_)
   refine wp_seq_k (fun K3 hK3 => ?_)
   have m4 : MemOk _ _ [(1, _), (2, _), (3, _), (4, _), (5, _), (6, _), (7, _), (8, _), (30, _)] _ := m3.only [1, 2, 3, 4, 5, 6, 7, 8, 30]; clear m3
   refine region_p 8 (B := [(1, _), (2, _), (3, _), (4, _), (5, _), (6, _), (7, _), (8, _), (30, _)]) (m4.to ⟨il, il, il, il, il, il, il, il, il, trivial⟩) m4 (by kernel_rfl) (fun w5 hP5 m5 => ?_); clear m4
   refine goR hP5 [0, 1, 2, 3, 4, 5, 6, 7] [1, 6] 8 0 255 Hz (m5.to ⟨il, il, il, il, il, il, il, il, il, trivial⟩) (.fieldAddr (off := 4) rfl Tryz.underlying55 rfl (s := 0) (by kernel_rfl) rfl <| .loadB1 hh (i := 30) rfl rfl rfl Tryz.underlying3 rfl <| .move rfl <| .nilCheck rfl <| .fieldAddr (off := 2) rfl Tryz.underlying91 rfl (s := 1) (by kernel_rfl) rfl <| .fieldAddr (off := 2) rfl Tryz.underlying25 rfl (s := 0) (by kernel_rfl) rfl <| .loadB1 hh (i := 1) rfl rfl rfl Tryz.underlying3 rfl <| .lss rfl rfl <| .nil) ?_
   clear Hz Az; intro Az Hz
   refine wpAnyE_done (by kernel_rfl) ?_ _
   refine hK3 _ _ ?_; clear hK3; try clear K3
   refine bool_cases Hz (t := 29) rfl ?_ ?_
   ·
    clear Hz; intro hb14 Hz
    try simp only [Q1x, Q2x, Q3x, Q4x, Q5x, Q6x, Q7x, Q8x, Q9x, Q0x, Qax, Qbx] at hb14
    have hk1 : ROk s1 := h1 ▸ hkd
    have hw1 : WLS s1 := h1 ▸ hwd
    refine wp_cond_true (Hz.ev (x := .tmp 29) rfl) ?_
    refine wp_seq_k (fun K4 hK4 => ?_)
    replace Hz : Has 291 [(0, _), (3, _), (29, _)] Az := Hz.only [0, 3, 29]
    refine regS Hz (.fieldAddr (off := 0) rfl Tryz.underlying55 rfl (s := 0) (by kernel_rfl) rfl <| .loadB1 m5 (i := 30) rfl rfl rfl Tryz.underlying3 rfl <| .nil) ?_
    clear Hz Az; intro Az Hz
    refine wp_block ?_
    refine wp_seq_k (fun K5 hK5 => ?_)
    refine regS Hz (.eql rfl rfl <| .assign rfl <| .nil) ?_
    clear Hz Az; intro Az Hz
    refine bool_cases Hz (t := 32) rfl ?_ ?_
    · intro hb _; exact absurd hb (by decide)
    clear Hz; intro _ Hz
    refine wp_cond_false (Hz.ev (x := .tmp 32) rfl) ?_
    refine wp_region_lit ?_
    refine goCh Hz (.eql rfl rfl <| .assign rfl <| .nil) ?_
    clear Hz Az; intro Az Hz
    refine wpList_nil ?_
    refine hK5 _ _ ?_; clear hK5; try clear K5
    refine bool_cases Hz (t := 32) rfl ?_ ?_
    · intro hb _; exact absurd hb (by decide)
    clear Hz; intro _ Hz
    refine wp_cond_false (Hz.ev (x := .tmp 32) rfl) ?_
    refine regS Hz (.eql rfl rfl <| .assign rfl <| .nil) ?_
    clear Hz Az; intro Az Hz
    refine bool_cases Hz (t := 45) rfl ?_ ?_
    rotate_left
    · intro hb _; exact absurd hb (by decide)
    clear Hz; intro _ Hz
    refine wp_cond_true (Hz.ev (x := .tmp 45) rfl) ?_
    replace Hz : Has 291 [(0, _), (3, _), (29, _)] Az := Hz.only [0, 3, 29]
    have m28 : MemOk _ _ [(1, _), (2, _), (3, _), (4, _), (5, _), (6, _), (7, _), (8, _), (30, _)] _ := m5.only [1, 2, 3, 4, 5, 6, 7, 8, 30]; clear m5
    refine region_p 9 (B := [(1, _), (2, _), (3, _), (4, _), (5, _), (6, _), (7, _), (8, _), (30, _)]) (m28.to ⟨il, il, il, il, il, il, il, il, il, trivial⟩) m28 (by kernel_rfl) (fun w29 hP29 m29 => ?_); clear m28
    refine goR hP29 [0, 1, 2, 3, 4, 5, 6, 7, 8] [5, 8] 9 0 511 Hz (m29.to ⟨il, il, il, il, il, il, il, il, il, trivial⟩) (.move rfl <| .move rfl <| .nilCheck rfl <| .fieldAddr (off := 2) rfl Tryz.underlying91 rfl (s := 1) (by kernel_rfl) rfl <| .fieldAddr (off := 2) rfl Tryz.underlying25 rfl (s := 0) (by kernel_rfl) rfl <| .loadB1 hh (i := 1) rfl rfl rfl Tryz.underlying3 rfl <| .p (fun _ _ h_ => y_buildG h_ rfl zc55wrv ps55wrv rfl) <| .fieldAddr (off := 2) rfl Tryz.underlying55 rfl (s := 0) (by kernel_rfl) rfl <| .loadB1 hh (i := 30) rfl rfl rfl Tryz.underlying3 rfl <| .nil) ?_
    clear Hz Az; intro Az Hz
    refine stepE_end 9 rfl (by kernel_rfl) rfl (by rfl) (fun K hK => ?_)
    refine e_call Hz Tryz.func62 rfl rfl rfl rfl (wsend0_s _ R s1 p1 f 4 s1.x.te 0 0 false _ (by have := hk1.ms; omega) (m29.into [(1, 1), (2, 2), (3, 3), (4, 4), (5, 5), (6, 6), (7, 7), (8, 8)] (by decide) rfl)) ?_
    rintro e w39 ⟨p9, rfl, hm39⟩
    have mx39 := m29.back hm39 [(1, 1), (2, 2), (3, 3), (4, 4), (5, 5), (6, 6), (7, 7), (8, 8)] (by decide); clear hm39 m29
    have m39 : MemOk _ _ [(1, _), (2, _), (3, _), (4, _), (5, _), (6, _), (7, _), (8, _), (30, _)] _ := mx39.only [1, 2, 3, 4, 5, 6, 7, 8, 30]; clear mx39
    refine ⟨_, rfl, ?_⟩; clear Hz Az; intro Az Hz
    refine hK _ _ ?_; clear hK K
    refine wpAnyE_done (by kernel_rfl) ?_ _
    refine hK4 _ _ ?_; clear hK4; try clear K4
    refine wp_ret ?_
    try dsimp only [Exit.then, Exit.inBlock]
    refine (ret0r (fn := Tryz.f66) Hz rfl ?_)
    have e9 : voteW s f te ix lt = vRep s1 f false := by unfold voteW voteW1; rw [← h1, if_pos hb14]
    rw [e9]
    exact ⟨p9, rfl, m39.only [1, 2, 3, 4, 5, 6, 7, 8]⟩
   ·
    clear Hz; intro hb14 Hz
    try simp only [Q1x, Q2x, Q3x, Q4x, Q5x, Q6x, Q7x, Q8x, Q9x, Q0x, Qax, Qbx] at hb14
    have hk1 : ROk s1 := h1 ▸ hkd
    have hw1 : WLS s1 := h1 ▸ hwd
    refine wp_cond_false (Hz.ev (x := .tmp 29) rfl) ?_
    refine wp_skip ?_
    refine hK2 _ _ ?_; clear hK2; try clear K2
    replace Hz : Has 291 [(0, _), (3, _), (29, _)] Az := Hz.only [0, 3, 29]
    refine regS Hz (.fieldAddr (off := 0) rfl Tryz.underlying55 rfl (s := 0) (by kernel_rfl) rfl <| .loadB1 m5 (i := 30) rfl rfl rfl Tryz.underlying3 rfl <| .nil) ?_
    clear Hz Az; intro Az Hz
    refine wp_block ?_
    refine regS Hz (.eql rfl rfl <| .assign rfl <| .nil) ?_
    clear Hz Az; intro Az Hz
    refine bool_cases Hz (t := 59) rfl ?_ ?_
    rotate_left
    · intro hb _; exact absurd hb (by decide)
    clear Hz; intro _ Hz
    refine wp_cond_true (Hz.ev (x := .tmp 59) rfl) ?_
    refine wp_seq_k (fun K6 hK6 => ?_)
    have hC6 : ∀ (a : Act) (w : World), (∃ (ok1 : Bool), ok1 = voteB s1 f ix lt ∧ Has 291 [(0, .pointer (some ⟨R, 0, none⟩)), (3, .pointer (some ⟨Bm, 0, none⟩)), (4, .bool ok1)] a ∧ MemOk X w0 ((30, .box Bm 55 [.int .i64 3, .int .i64 gm, .int .i64 f, .int .i64 t, .int .i64 te, .int .i64 ix, .int .i64 lt, .int .i64 co, .bool ok, .slice none 0 0, .int .i64 0, .int .i64 0, .slice none 0 0, .slice none 0 0, .slice none 0 0, .int .i64 0, .int .i64 0, .int .i64 0, .int .i64 0]) :: rwM R s1 p1) w) → K6 a w := by
      clear Hz m5
      rintro Az w47 ⟨ok1, hok1, Hz, m47⟩
      refine hK6 _ _ ?_; clear hK6; try clear K6
      refine wp_seq_k (fun K7 hK7 => ?_)
      have hC7 : ∀ (a : Act) (w : World), (∃ (s2 : RS) (p2 : RP), s2 = (if ok1 = true then grantS s1 f else s1) ∧ Has 291 [(0, .pointer (some ⟨R, 0, none⟩)), (3, .pointer (some ⟨Bm, 0, none⟩)), (4, .bool ok1)] a ∧ MemOk X w0 ((30, .box Bm 55 [.int .i64 3, .int .i64 gm, .int .i64 f, .int .i64 t, .int .i64 te, .int .i64 ix, .int .i64 lt, .int .i64 co, .bool ok, .slice none 0 0, .int .i64 0, .int .i64 0, .slice none 0 0, .slice none 0 0, .slice none 0 0, .int .i64 0, .int .i64 0, .int .i64 0, .int .i64 0]) :: rwM R s2 p2) w) → K7 a w := by
        clear Hz m47
        rintro Az w48 ⟨s2, p2, h2, Hz, m48⟩
        refine hK7 _ _ ?_; clear hK7; try clear K7
        have m49 : MemOk _ _ [(1, _), (2, _), (3, _), (4, _), (5, _), (6, _), (7, _), (8, _), (30, _)] _ := m48.only [1, 2, 3, 4, 5, 6, 7, 8, 30]; clear m48
        refine region_p 10 (B := [(1, _), (2, _), (3, _), (4, _), (5, _), (6, _), (7, _), (8, _), (30, _)]) (m49.to ⟨il, il, il, il, il, il, il, il, il, trivial⟩) m49 (by kernel_rfl) (fun w50 hP50 m50 => ?_); clear m49
        refine goR hP50 [0, 1, 2, 3, 4, 5, 6, 7, 8, 9] [5, 9] 10 0 1023 Hz (m50.to ⟨il, il, il, il, il, il, il, il, il, trivial⟩) (.move rfl <| .move rfl <| .nilCheck rfl <| .fieldAddr (off := 2) rfl Tryz.underlying91 rfl (s := 1) (by kernel_rfl) rfl <| .fieldAddr (off := 2) rfl Tryz.underlying25 rfl (s := 0) (by kernel_rfl) rfl <| .loadB1 hh (i := 1) rfl rfl rfl Tryz.underlying3 rfl <| .move rfl <| .p (fun _ _ h_ => y_buildG h_ rfl zc55wrv ps55wrv rfl) <| .fieldAddr (off := 2) rfl Tryz.underlying55 rfl (s := 0) (by kernel_rfl) rfl <| .loadB1 hh (i := 30) rfl rfl rfl Tryz.underlying3 rfl <| .nil) ?_
        clear Hz Az; intro Az Hz
        refine stepE_end 10 rfl (by kernel_rfl) rfl (by rfl) (fun K hK => ?_)
        refine e_call Hz Tryz.func62 rfl rfl rfl rfl (wsend0_s _ R s2 p2 f 4 s2.x.te 0 0 ok1 _ (by rw [h2, gr_ms]; have := hk1.ms; omega) (m50.into [(1, 1), (2, 2), (3, 3), (4, 4), (5, 5), (6, 6), (7, 7), (8, 8)] (by decide) rfl)) ?_
        rintro e w61 ⟨p9, rfl, hm61⟩
        have mx61 := m50.back hm61 [(1, 1), (2, 2), (3, 3), (4, 4), (5, 5), (6, 6), (7, 7), (8, 8)] (by decide); clear hm61 m50
        have m61 : MemOk _ _ [(1, _), (2, _), (3, _), (4, _), (5, _), (6, _), (7, _), (8, _), (30, _)] _ := mx61.only [1, 2, 3, 4, 5, 6, 7, 8, 30]; clear mx61
        refine ⟨_, rfl, ?_⟩; clear Hz Az; intro Az Hz
        refine hK _ _ ?_; clear hK K
        refine wpAnyE_done (by kernel_rfl) ?_ _
        try dsimp only [Exit.then, Exit.inBlock]
        try refine out_here ?_
        refine (ret0 (fn := Tryz.f66) Hz rfl ?_)
        have e9 : voteW s f te ix lt = vRep s2 f ok1 := by unfold voteW voteW1; rw [← h1, if_neg (show ¬ te < s1.x.te by omega)]; dsimp only; rw [← hok1, ← h2]
        rw [e9]
        exact ⟨p9, rfl, m61.only [1, 2, 3, 4, 5, 6, 7, 8]⟩
      refine regS Hz (.move rfl <| .nil) ?_
      clear Hz Az; intro Az Hz
      refine bool_cases Hz (t := 82) rfl ?_ ?_
      ·
       clear Hz; intro hb64 Hz
       try simp only [Q1x, Q2x, Q3x, Q4x, Q5x, Q6x, Q7x, Q8x, Q9x, Q0x, Qax, Qbx] at hb64
       refine wp_cond_true (Hz.ev (x := .tmp 82) rfl) ?_
       refine wp_seq_k (fun K8 hK8 => ?_)
       have hC8 : ∀ (a : Act) (w : World), (∃ (s3 : RS) (p3 : RP), withX s3 { s3.x with si := 0 } = grantS s1 f ∧ Has 291 [(0, .pointer (some ⟨R, 0, none⟩)), (3, .pointer (some ⟨Bm, 0, none⟩)), (4, .bool ok1)] a ∧ MemOk X w0 ((30, .box Bm 55 [.int .i64 3, .int .i64 gm, .int .i64 f, .int .i64 t, .int .i64 te, .int .i64 ix, .int .i64 lt, .int .i64 co, .bool ok, .slice none 0 0, .int .i64 0, .int .i64 0, .slice none 0 0, .slice none 0 0, .slice none 0 0, .int .i64 0, .int .i64 0, .int .i64 0, .int .i64 0]) :: rwM R s3 p3) w) → K8 a w := by
         clear Hz m47
         rintro Az w65 ⟨s3, p3, h3, Hz, m65⟩
         refine hK8 _ _ ?_; clear hK8; try clear K8
         refine wp_region_lit ?_
         refine goCh Hz (.move rfl <| .nilCheck rfl <| .fieldAddr (off := 24) rfl Tryz.underlying91 rfl (s := 0) (by kernel_rfl) rfl <| .nil) ?_
         clear Hz Az; intro Az Hz
         refine wpList_plain rfl (fun K hK => ?_)
         refine e_store1 Hz m65 1 rfl rfl rfl rfl rfl sz3wrv (by dsimp only [List.set] <;> rfl) ?_
         clear m65; intro w69 m69 hB69
         clear hB69
         refine hK _ _ ?_; clear hK K
         refine wpList_nil ?_
         show K7 _ _
         exact hC7 _ _ ⟨withX s3 { s3.x with si := 0 }, p3, (h3.trans (if_pos hb64).symm), Hz.only [0, 3, 4], m69.only [30, 1, 2, 3, 4, 5, 6, 7, 8]⟩
       refine wp_seq_k (fun K9 hK9 => ?_)
       have m70 : MemOk _ _ [(1, _), (2, _), (3, _), (4, _), (5, _), (6, _), (7, _), (8, _), (30, _)] _ := m47.only [1, 2, 3, 4, 5, 6, 7, 8, 30]; clear m47
       refine region_p 8 (B := [(1, _), (2, _), (3, _), (4, _), (5, _), (6, _), (7, _), (8, _), (30, _)]) (m70.to ⟨il, il, il, il, il, il, il, il, il, trivial⟩) m70 (by kernel_rfl) (fun w71 hP71 m71 => ?_); clear m70
       refine goR hP71 [0, 1, 2, 3, 4, 5, 6, 7] [4, 6] 8 0 255 Hz (m71.to ⟨il, il, il, il, il, il, il, il, il, trivial⟩) (.move rfl <| .nilCheck rfl <| .fieldAddr (off := 2) rfl Tryz.underlying91 rfl (s := 1) (by kernel_rfl) rfl <| .fieldAddr (off := 3) rfl Tryz.underlying25 rfl (s := 0) (by kernel_rfl) rfl <| .loadB1 hh (i := 1) rfl rfl rfl Tryz.underlying3 rfl <| .fieldAddr (off := 2) rfl Tryz.underlying55 rfl (s := 0) (by kernel_rfl) rfl <| .loadB1 hh (i := 30) rfl rfl rfl Tryz.underlying3 rfl <| .neq rfl rfl <| .nil) ?_
       clear Hz Az; intro Az Hz
       refine wpAnyE_done (by kernel_rfl) ?_ _
       refine hK9 _ _ ?_; clear hK9; try clear K9
       refine bool_cases Hz (t := 90) rfl ?_ ?_
       ·
        clear Hz; intro hb80 Hz
        try simp only [Q1x, Q2x, Q3x, Q4x, Q5x, Q6x, Q7x, Q8x, Q9x, Q0x, Qax, Qbx] at hb80
        refine wp_cond_true (Hz.ev (x := .tmp 90) rfl) ?_
        replace Hz : Has 291 [(0, _), (3, _), (4, _), (82, _), (90, _)] Az := Hz.only [0, 3, 4, 82, 90]
        have m82 : MemOk _ _ [(1, _), (2, _), (3, _), (4, _), (5, _), (6, _), (7, _), (8, _), (30, _)] _ := m71.only [1, 2, 3, 4, 5, 6, 7, 8, 30]; clear m71
        refine region_p 8 (B := [(1, _), (2, _), (3, _), (4, _), (5, _), (6, _), (7, _), (8, _), (30, _)]) (m82.to ⟨il, il, il, il, il, il, il, il, il, trivial⟩) m82 (by kernel_rfl) (fun w83 hP83 m83 => ?_); clear m82
        refine goR hP83 [0, 1, 2, 3, 4, 5, 6, 7] [5, 7] 8 0 255 Hz (m83.to ⟨il, il, il, il, il, il, il, il, il, trivial⟩) (.move rfl <| .move rfl <| .nilCheck rfl <| .fieldAddr (off := 2) rfl Tryz.underlying91 rfl (s := 1) (by kernel_rfl) rfl <| .fieldAddr (off := 2) rfl Tryz.underlying25 rfl (s := 0) (by kernel_rfl) rfl <| .loadB1 hh (i := 1) rfl rfl rfl Tryz.underlying3 rfl <| .fieldAddr (off := 2) rfl Tryz.underlying55 rfl (s := 0) (by kernel_rfl) rfl <| .loadB1 hh (i := 30) rfl rfl rfl Tryz.underlying3 rfl <| .nil) ?_
        clear Hz Az; intro Az Hz
        refine stepE_end 8 rfl (by kernel_rfl) rfl (by rfl) (fun K hK => ?_)
        refine e_call Hz Tryz.func106 rfl rfl rfl rfl (whard_s _ R s1 p1 s1.x.te f _ (by have := hk1.rs; omega) (m83.into [(1, 1), (2, 2), (3, 3), (4, 4), (5, 5), (6, 6), (7, 7), (8, 8)] (by decide) rfl)) ?_
        rintro e w92 ⟨p3, rfl, hm92⟩
        have mx92 := m83.back hm92 [(1, 1), (2, 2), (3, 3), (4, 4), (5, 5), (6, 6), (7, 7), (8, 8)] (by decide); clear hm92 m83
        have m92 : MemOk _ _ [(1, _), (2, _), (3, _), (4, _), (5, _), (6, _), (7, _), (8, _), (30, _)] _ := mx92.only [1, 2, 3, 4, 5, 6, 7, 8, 30]; clear mx92
        refine ⟨_, rfl, ?_⟩; clear Hz Az; intro Az Hz
        refine hK _ _ ?_; clear hK K
        refine wpAnyE_done (by kernel_rfl) ?_ _
        show K8 _ _
        exact hC8 _ _ ⟨_, _, gr_b s1 f hb80, Hz.only [0, 3, 4], m92.only [30, 1, 2, 3, 4, 5, 6, 7, 8]⟩
       ·
        clear Hz; intro hb80 Hz
        try simp only [Q1x, Q2x, Q3x, Q4x, Q5x, Q6x, Q7x, Q8x, Q9x, Q0x, Qax, Qbx] at hb80
        refine wp_cond_false (Hz.ev (x := .tmp 90) rfl) ?_
        refine wp_skip ?_
        show K8 _ _
        exact hC8 _ _ ⟨_, _, gr_a s1 f hb80, Hz.only [0, 3, 4], m71.only [30, 1, 2, 3, 4, 5, 6, 7, 8]⟩
      ·
       clear Hz; intro hb64 Hz
       try simp only [Q1x, Q2x, Q3x, Q4x, Q5x, Q6x, Q7x, Q8x, Q9x, Q0x, Qax, Qbx] at hb64
       refine wp_cond_false (Hz.ev (x := .tmp 82) rfl) ?_
       refine wp_skip ?_
       show K7 _ _
       exact hC7 _ _ ⟨s1, p1, (if_neg (fun h9 => by rw [hb64] at h9; cases h9)).symm, Hz.only [0, 3, 4], m47.only [30, 1, 2, 3, 4, 5, 6, 7, 8]⟩
    have m94 : MemOk _ _ [(1, _), (2, _), (3, _), (4, _), (5, _), (6, _), (7, _), (8, _), (30, _)] _ := m5.only [1, 2, 3, 4, 5, 6, 7, 8, 30]; clear m5
    refine region_p 22 (B := [(1, _), (2, _), (3, _), (4, _), (5, _), (6, _), (7, _), (8, _), (30, _)]) (m94.to ⟨il, il, il, il, il, il, il, il, il, trivial⟩) m94 (by kernel_rfl) (fun w95 hP95 m95 => ?_); clear m94
    refine goR hP95 [0, 1, 2, 3, 4, 5, 6] [4] 7 0 127 Hz (m95.to ⟨il, il, il, il, il, il, il, il, il, trivial⟩) (.move rfl <| .nilCheck rfl <| .fieldAddr (off := 2) rfl Tryz.underlying91 rfl (s := 1) (by kernel_rfl) rfl <| .fieldAddr (off := 3) rfl Tryz.underlying25 rfl (s := 0) (by kernel_rfl) rfl <| .loadB1 hh (i := 1) rfl rfl rfl Tryz.underlying3 rfl <| .lss rfl rfl <| .move rfl <| .nil) ?_
    clear Hz Az; intro Az Hz
    refine bool_cases Hz (t := 67) rfl ?_ ?_
    ·
     clear Hz; intro hb103 Hz
     try simp only [Q1x, Q2x, Q3x, Q4x, Q5x, Q6x, Q7x, Q8x, Q9x, Q0x, Qax, Qbx] at hb103
     refine goR hP95 [7, 8, 9, 10, 11, 12, 13, 14, 15, 16, 17, 18] [18] 12 127 524287 Hz (m95.to ⟨il, il, il, il, il, il, il, il, il, trivial⟩) (.s <| .s <| .s <| .s <| .s <| .s <| .s <| .s <| .pickT rfl rfl <| .move rfl <| .move rfl <| .loadBR hh (i := 30) rfl rfl Tryz.underlying55 rfl sz55wrv (by simp) (by dsimp only [List.drop, List.take] <;> rfl) <| .nil) ?_
     clear Hz Az; intro Az Hz
     refine stepE_only 19 rfl (by kernel_rfl) (wantedG Hz rfl rfl rfl rfl) (fun K hK => ?_)
     refine e_call Hz Tryz.func61 rfl rfl rfl rfl (wnewer_s R s1 p1 _ (rwM_is s1 p1 (m95.into [(1, 1), (2, 2), (3, 3), (4, 4), (5, 5), (6, 6), (7, 7), (8, 8)] (by decide) rfl)) hk1.l 3 gm f t te ix lt co ok) ?_
     rintro e w116 ⟨rfl, hb116⟩
     have m117 := m95.later hb116
     clear m95
     clear hb116
     refine ⟨_, rfl, ?_⟩; clear Hz Az; intro Az Hz
     refine hK _ _ (m117.to ⟨il, il, il, il, il, il, il, il, il, trivial⟩) ?_; clear hK K
     refine goA hP95 [20, 21] 2 1048575 4194303 Hz (m117.to ⟨il, il, il, il, il, il, il, il, il, trivial⟩) (.pickT rfl rfl <| .assign rfl <| .nil) ?_
     clear Hz Az; intro Az Hz
     refine wpAnyE_done (by kernel_rfl) ?_ _
     show K6 _ _
     exact hC6 _ _ ⟨_, vb_a s1 f ix lt hb103, Hz.only [0, 3, 4], m117.only [30, 1, 2, 3, 4, 5, 6, 7, 8]⟩
    ·
     clear Hz; intro hb103 Hz
     try simp only [Q1x, Q2x, Q3x, Q4x, Q5x, Q6x, Q7x, Q8x, Q9x, Q0x, Qax, Qbx] at hb103
     refine goR hP95 [7, 8, 9, 10, 11, 12, 13, 14, 15, 16] [11, 13] 10 127 131071 Hz (m95.to ⟨il, il, il, il, il, il, il, il, il, trivial⟩) (.move rfl <| .nilCheck rfl <| .fieldAddr (off := 2) rfl Tryz.underlying91 rfl (s := 1) (by kernel_rfl) rfl <| .fieldAddr (off := 3) rfl Tryz.underlying25 rfl (s := 0) (by kernel_rfl) rfl <| .loadB1 hh (i := 1) rfl rfl rfl Tryz.underlying3 rfl <| .fieldAddr (off := 2) rfl Tryz.underlying55 rfl (s := 0) (by kernel_rfl) rfl <| .loadB1 hh (i := 30) rfl rfl rfl Tryz.underlying3 rfl <| .eql rfl rfl <| .pickF rfl rfl <| .move rfl <| .nil) ?_
     clear Hz Az; intro Az Hz
     refine bool_cases Hz (t := 77) rfl ?_ ?_
     ·
      clear Hz; intro hb131 Hz
      try simp only [Q1x, Q2x, Q3x, Q4x, Q5x, Q6x, Q7x, Q8x, Q9x, Q0x, Qax, Qbx] at hb131
      refine goR hP95 [17, 18] [18] 2 131071 524287 Hz (m95.to ⟨il, il, il, il, il, il, il, il, il, trivial⟩) (.move rfl <| .loadBR hh (i := 30) rfl rfl Tryz.underlying55 rfl sz55wrv (by simp) (by dsimp only [List.drop, List.take] <;> rfl) <| .nil) ?_
      clear Hz Az; intro Az Hz
      refine stepE_only 19 rfl (by kernel_rfl) (wantedG Hz rfl rfl rfl rfl) (fun K hK => ?_)
      refine e_call Hz Tryz.func61 rfl rfl rfl rfl (wnewer_s R s1 p1 _ (rwM_is s1 p1 (m95.into [(1, 1), (2, 2), (3, 3), (4, 4), (5, 5), (6, 6), (7, 7), (8, 8)] (by decide) rfl)) hk1.l 3 gm f t te ix lt co ok) ?_
      rintro e w134 ⟨rfl, hb134⟩
      have m135 := m95.later hb134
      clear m95
      clear hb134
      refine ⟨_, rfl, ?_⟩; clear Hz Az; intro Az Hz
      refine hK _ _ (m135.to ⟨il, il, il, il, il, il, il, il, il, trivial⟩) ?_; clear hK K
      refine goA hP95 [20, 21] 2 1048575 4194303 Hz (m135.to ⟨il, il, il, il, il, il, il, il, il, trivial⟩) (.pickT rfl rfl <| .assign rfl <| .nil) ?_
      clear Hz Az; intro Az Hz
      refine wpAnyE_done (by kernel_rfl) ?_ _
      show K6 _ _
      exact hC6 _ _ ⟨_, vb_b s1 f ix lt hb131, Hz.only [0, 3, 4], m135.only [30, 1, 2, 3, 4, 5, 6, 7, 8]⟩
     ·
      clear Hz; intro hb131 Hz
      try simp only [Q1x, Q2x, Q3x, Q4x, Q5x, Q6x, Q7x, Q8x, Q9x, Q0x, Qax, Qbx] at hb131
      refine goA hP95 [17, 18, 19, 20, 21] 5 131071 4194303 Hz (m95.to ⟨il, il, il, il, il, il, il, il, il, trivial⟩) (.s <| .s <| .s <| .pickF rfl rfl <| .assign rfl <| .nil) ?_
      clear Hz Az; intro Az Hz
      refine wpAnyE_done (by kernel_rfl) ?_ _
      show K6 _ _
      exact hC6 _ _ ⟨_, vb_c s1 f ix lt hb103 hb131, Hz.only [0, 3, 4], m95.only [30, 1, 2, 3, 4, 5, 6, 7, 8]⟩
 refine wp_seq_k (fun K10 hK10 => ?_)
 have m144 : MemOk _ _ [(1, _), (2, _), (3, _), (4, _), (5, _), (6, _), (7, _), (8, _), (30, _)] _ := m2.only [1, 2, 3, 4, 5, 6, 7, 8, 30]; clear m2
 refine region_p 8 (B := [(1, _), (2, _), (3, _), (4, _), (5, _), (6, _), (7, _), (8, _), (30, _)]) (m144.to ⟨il, il, il, il, il, il, il, il, il, trivial⟩) m144 (by kernel_rfl) (fun w145 hP145 m145 => ?_); clear m144
 refine goR hP145 [0, 1, 2, 3, 4, 5, 6, 7] [1, 6] 8 0 255 Hz (m145.to ⟨il, il, il, il, il, il, il, il, il, trivial⟩) (.fieldAddr (off := 4) rfl Tryz.underlying55 rfl (s := 0) (by kernel_rfl) rfl <| .loadB1 hh (i := 30) rfl rfl rfl Tryz.underlying3 rfl <| .move rfl <| .nilCheck rfl <| .fieldAddr (off := 2) rfl Tryz.underlying91 rfl (s := 1) (by kernel_rfl) rfl <| .fieldAddr (off := 2) rfl Tryz.underlying25 rfl (s := 0) (by kernel_rfl) rfl <| .loadB1 hh (i := 1) rfl rfl rfl Tryz.underlying3 rfl <| .gtr rfl rfl <| .nil) ?_
 clear Hz Az; intro Az Hz
 refine wpAnyE_done (by kernel_rfl) ?_ _
 refine hK10 _ _ ?_; clear hK10; try clear K10
 refine bool_cases Hz (t := 17) rfl ?_ ?_
 ·
  clear Hz; intro hb154 Hz
  try simp only [Q1x, Q2x, Q3x, Q4x, Q5x, Q6x, Q7x, Q8x, Q9x, Q0x, Qax, Qbx] at hb154
  refine wp_cond_true (Hz.ev (x := .tmp 17) rfl) ?_
  replace Hz : Has 291 [(0, _), (3, _), (17, _)] Az := Hz.only [0, 3, 17]
  refine wp_region_lit ?_
  refine goCh Hz (.move rfl <| .fieldAddr (off := 4) rfl Tryz.underlying55 rfl (s := 0) (by kernel_rfl) rfl <| .loadB1 m145 (i := 30) rfl rfl rfl Tryz.underlying3 rfl <| .nil) ?_
  clear Hz Az; intro Az Hz
  refine wpList_plain rfl (fun K hK => ?_)
  refine e_call Hz Tryz.func65 rfl rfl rfl rfl (wdown_s _ R s p te _ (by have := hk.rs; omega) (m145.into [(1, 1), (2, 2), (3, 3), (4, 4), (5, 5), (6, 6), (7, 7), (8, 8)] (by decide) rfl)) ?_
  rintro e w159 ⟨p1, rfl, hm159⟩
  have mx159 := m145.back hm159 [(1, 1), (2, 2), (3, 3), (4, 4), (5, 5), (6, 6), (7, 7), (8, 8)] (by decide); clear hm159 m145
  have m159 : MemOk _ _ [(1, _), (2, _), (3, _), (4, _), (5, _), (6, _), (7, _), (8, _), (30, _)] _ := mx159.only [1, 2, 3, 4, 5, 6, 7, 8, 30]; clear mx159
  refine ⟨_, rfl, ?_⟩; clear Hz Az; intro Az Hz
  refine hK _ _ ?_; clear hK K
  refine wpList_nil ?_
  show K1 _ _
  exact hC1 _ _ ⟨_, _, _, dn_yes s hb154, Hz.only [0, 3], m159.ren [(30, 30), (1, 1), (2, 2), (3, 3), (4, 4), (5, 5), (6, 6), (7, 7), (8, 8)] (by decide)⟩
 ·
  clear Hz; intro hb154 Hz
  try simp only [Q1x, Q2x, Q3x, Q4x, Q5x, Q6x, Q7x, Q8x, Q9x, Q0x, Qax, Qbx] at hb154
  refine wp_cond_false (Hz.ev (x := .tmp 17) rfl) ?_
  refine wp_skip ?_
  show K1 _ _
  exact hC1 _ _ ⟨_, _, _, dn_no s hb154, Hz.only [0, 3], m145.ren [(30, 30), (1, 1), (2, 2), (3, 3), (4, 4), (5, 5), (6, 6), (7, 7), (8, 8)] (by decide)⟩
end
end Go.Proofs.YtndnnlbdnjndiaaGreat.K
