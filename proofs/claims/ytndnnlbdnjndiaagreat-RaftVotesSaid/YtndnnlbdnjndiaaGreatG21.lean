/- General laws of walks. -/
import Derived.Test.YtndnnlbdnjndiaaGreatG19
namespace Go.Proofs.YtndnnlbdnjndiaaGreat.K
open Go.ChangeShapes Go.WideShapes Go.ChangeAt Go.RowKit
set_option linter.unusedVariables false
set_option linter.unusedSimpArgs false
section
theorem inf3wrx : (Tryz.prog.info? 3).map (fun i => (i.zero, i.size, i.bytes)) = some (some (.int .i64 0), 1, 8) := by kernel_rfl
theorem sz26wrx : (Tryz.prog.info? 26).map (·.size) = some 1 := by kernel_rfl

def voteOkW1 (s : RS) (f te : Int) (ok : Bool) : RS :=
 if te < s.x.te then s else
   if ok = true ∧ s.x.ro = 2 then (if favS { s with ys := s.ys ++ [f] } then winS { s with ys := s.ys ++ [f] } else { s with ys := s.ys ++ [f] }) else s
def voteOkW (s : RS) (f te : Int) (ok : Bool) : RS := voteOkW1 (dnS s te) f te ok
theorem vo_old (s : RS) {f te : Int} {ok : Bool} (h : te < s.x.te) : voteOkW1 s f te ok = s := if_pos h
theorem vo_no (s : RS) {f te : Int} {ok : Bool} (h : ok = false ∨ ¬ s.x.ro = 2) : voteOkW1 s f te ok = s := by
 unfold voteOkW1; split
 · rfl
 · exact if_neg fun h9 => h.elim (fun h => by rw [h] at h9; exact absurd h9.1 (by decide)) (fun h => h h9.2)
theorem vo_yes (s : RS) {f te : Int} {ok : Bool} (h0 : s.x.te ≤ te) (h : ok = true) (h2 : s.x.ro = 2) (h3 : favS { s with ys := s.ys ++ [f] } = true) : voteOkW1 s f te ok = winS { s with ys := s.ys ++ [f] } := by
 unfold voteOkW1; rw [if_neg (by omega), if_pos ⟨h, h2⟩, if_pos h3]
theorem vo_wait (s : RS) {f te : Int} {ok : Bool} (h0 : s.x.te ≤ te) (h : ok = true) (h2 : s.x.ro = 2) (h3 : favS { s with ys := s.ys ++ [f] } = false) : voteOkW1 s f te ok = { s with ys := s.ys ++ [f] } := by
 unfold voteOkW1; rw [if_neg (by omega), if_pos ⟨h, h2⟩, if_neg (by rw [h3]; decide)]
set_option maxRecDepth 100000
set_option maxHeartbeats 4000000
theorem wrecvOk_s (X : Cx) (R : Nat) (s : RS) (p : RP) (gm f t te ix lt co : Int) (ok : Bool) (w0 : World) (hk : ROk s) (hkd : ROk (dnS s te)) (hwd : WLS (dnS s te)) (m0 : MemOk X w0 (rwM R s p) w0) :
   Calls Tryz.prog 66 #[.pointer (some ⟨R, 0, none⟩), .agg #[.int .i64 4, .int .i64 gm, .int .i64 f, .int .i64 t, .int .i64 te, .int .i64 ix, .int .i64 lt, .int .i64 co, .bool ok, .slice none 0 0, .int .i64 0, .int .i64 0, .slice none 0 0, .slice none 0 0, .slice none 0 0, .int .i64 0, .int .i64 0, .int .i64 0, .int .i64 0]] w0 fun e w' => ∃ p', e = .returned (.tuple #[]) ∧ MemOk X w0 (rwM R (voteOkW s f te ok) p') w' := by
 refine enter (fn := Tryz.f66) Tryz.func66 rfl Tryz.ntmps66 rfl (fun Az Hz => ?_)
 simp only [List.zipIdx_cons, List.zipIdx_nil, List.map_cons, List.map_nil, Nat.reduceAdd, Nat.zero_add] at Hz
 have hte := hk.te
 refine wp_seq_k (fun K0 hK0 => ?_)
 refine wp_region_lit ?_
 refine wpList_plain rfl (fun K hK => ?_)
 refine e_box Hz m0 30 (cs := [_, _, _, _, _, _, _, _, _, _, _, _, _, _, _, _, _, _, _]) rfl rfl rfl ?_
 clear Hz Az m0; intro g1 Az w2 Hz m2 hB2 hg2
 clear hB2 hg2
 refine hK _ _ ?_; clear hK K
 refine wpList_nil ?_
 refine hK0 _ _ ?_; clear hK0; try clear K0
 refine wp_seq_k (fun K1 hK1 => ?_)
 have hC1 : ∀ (a : Act) (w : World), (∃ (s1 : RS) (p1 : RP) (Bm : Nat), s1 = dnS s te ∧ Has 291 [(0, .pointer (some ⟨R, 0, none⟩)), (3, .pointer (some ⟨Bm, 0, none⟩))] a ∧ MemOk X w0 ((30, .box Bm 55 [.int .i64 4, .int .i64 gm, .int .i64 f, .int .i64 t, .int .i64 te, .int .i64 ix, .int .i64 lt, .int .i64 co, .bool ok, .slice none 0 0, .int .i64 0, .int .i64 0, .slice none 0 0, .slice none 0 0, .slice none 0 0, .int .i64 0, .int .i64 0, .int .i64 0, .int .i64 0]) :: rwM R s1 p1) w) → K1 a w := by
   clear Hz m2
   rintro Az w3 ⟨s1, p1, Bm, h1, Hz, m3⟩
   refine hK1 _ _ ?_; clear hK1; try clear K1
   refine wp_seq_k (fun K2 hK2 => ?_)
   refine wp_seq_k (fun K3 hK3 => ?_)
   have m4 : MemOk _ _ [(1, _), (2, _), (3, _), (4, _), (5, _), (6, _), (7, _), (8, _), (30, _)] _ := m3.only [1, 2, 3, 4, 5, 6, 7, 8, 30]; clear m3
   refine region_p 8 (B := [(1, _), (2, _), (3, _), (4, _), (5, _), (6, _), (7, _), (8, _), (30, _)]) (m4.to ⟨il, il, il, il, il, il, il, il, il, trivial⟩) m4 (by kernel_rfl) (fun w5 hP5 m5 => ?_); clear m4
   refine goR hP5 [0, 1, 2, 3, 4, 5, 6, 7] [1, 6] 8 0 255 Hz (m5.to ⟨il, il, il, il, il, il, il, il, il, trivial⟩) (.fieldAddr (off := 4) rfl Tryz.underlying55 rfl (s := 0) (by kernel_rfl) rfl <| .loadB1 hh (i := 30) rfl rfl rfl Tryz.underlying3 rfl <| .move rfl <| .nilCheck rfl <| .fieldAddr (off := 2) rfl Tryz.underlying91 rfl (s := 1) (by kernel_rfl) rfl <| .fieldAddr (off := 2) rfl Tryz.underlying25 rfl (s := 0) (by kernel_rfl) rfl <| .loadB1 hh (i := 1) rfl rfl rfl Tryz.underlying3 rfl <| .lss rfl rfl <| .nil) ?_
   clear Hz Az; intro Az Hz
   refine wpAnyE_done (by kernel_rfl) ?_ _
   refine hK3 _ _ ?_; clear hK3; try clear K3
   refine bool_cases Hz (t := 29) rfl ?_ ?_
   ·
    clear Hz; intro hb14 Hz
    try simp only [Q1x, Q2x, Q3x, Q4x, Q5x, Q6x, Q7x, Q8x, Q9x, Q0x, Qax, Qbx] at hb14
    have hk1 : ROk s1 := h1 ▸ hkd
    have hw1 : WLS s1 := h1 ▸ hwd
    refine wp_cond_true (Hz.ev (x := .tmp 29) rfl) ?_
    refine wp_seq_k (fun K4 hK4 => ?_)
    replace Hz : Has 291 [(0, _), (3, _), (29, _)] Az := Hz.only [0, 3, 29]
    refine regS Hz (.fieldAddr (off := 0) rfl Tryz.underlying55 rfl (s := 0) (by kernel_rfl) rfl <| .loadB1 m5 (i := 30) rfl rfl rfl Tryz.underlying3 rfl <| .nil) ?_
    clear Hz Az; intro Az Hz
    refine wp_block ?_
    refine wp_seq_k (fun K5 hK5 => ?_)
    refine regS Hz (.eql rfl rfl <| .assign rfl <| .nil) ?_
    clear Hz Az; intro Az Hz
    refine bool_cases Hz (t := 32) rfl ?_ ?_
    · intro hb _; exact absurd hb (by decide)
    clear Hz; intro _ Hz
    refine wp_cond_false (Hz.ev (x := .tmp 32) rfl) ?_
    refine wp_region_lit ?_
    refine goCh Hz (.eql rfl rfl <| .assign rfl <| .nil) ?_
    clear Hz Az; intro Az Hz
    refine wpList_nil ?_
    refine hK5 _ _ ?_; clear hK5; try clear K5
    refine bool_cases Hz (t := 32) rfl ?_ ?_
    · intro hb _; exact absurd hb (by decide)
    clear Hz; intro _ Hz
    refine wp_cond_false (Hz.ev (x := .tmp 32) rfl) ?_
    refine regS Hz (.eql rfl rfl <| .assign rfl <| .nil) ?_
    clear Hz Az; intro Az Hz
    refine bool_cases Hz (t := 45) rfl ?_ ?_
    · intro hb _; exact absurd hb (by decide)
    clear Hz; intro _ Hz
    refine wp_cond_false (Hz.ev (x := .tmp 45) rfl) ?_
    refine wp_skip ?_
    refine hK4 _ _ ?_; clear hK4; try clear K4
    refine wp_ret ?_
    try dsimp only [Exit.then, Exit.inBlock]
    refine (ret0r (fn := Tryz.f66) Hz rfl ?_)
    have e9 : voteOkW s f te ok = s1 := by unfold voteOkW; rw [← h1]; exact vo_old s1 hb14
    rw [e9]
    exact ⟨p1, rfl, m5.only [1, 2, 3, 4, 5, 6, 7, 8]⟩
   ·
    clear Hz; intro hb14 Hz
    try simp only [Q1x, Q2x, Q3x, Q4x, Q5x, Q6x, Q7x, Q8x, Q9x, Q0x, Qax, Qbx] at hb14
    have hk1 : ROk s1 := h1 ▸ hkd
    have hw1 : WLS s1 := h1 ▸ hwd
    have hys1 := hk1.ys
    refine wp_cond_false (Hz.ev (x := .tmp 29) rfl) ?_
    refine wp_skip ?_
    refine hK2 _ _ ?_; clear hK2; try clear K2
    replace Hz : Has 291 [(0, _), (3, _), (29, _)] Az := Hz.only [0, 3, 29]
    refine regS Hz (.fieldAddr (off := 0) rfl Tryz.underlying55 rfl (s := 0) (by kernel_rfl) rfl <| .loadB1 m5 (i := 30) rfl rfl rfl Tryz.underlying3 rfl <| .nil) ?_
    clear Hz Az; intro Az Hz
    refine wp_block ?_
    refine regS Hz (.eql rfl rfl <| .assign rfl <| .nil) ?_
    clear Hz Az; intro Az Hz
    refine bool_cases Hz (t := 59) rfl ?_ ?_
    · intro hb _; exact absurd hb (by decide)
    clear Hz; intro _ Hz
    refine wp_cond_false (Hz.ev (x := .tmp 59) rfl) ?_
    refine regS Hz (.eql rfl rfl <| .assign rfl <| .nil) ?_
    clear Hz Az; intro Az Hz
    refine bool_cases Hz (t := 114) rfl ?_ ?_
    rotate_left
    · intro hb _; exact absurd hb (by decide)
    clear Hz; intro _ Hz
    refine wp_cond_true (Hz.ev (x := .tmp 114) rfl) ?_
    refine wp_seq_k (fun K6 hK6 => ?_)
    refine wp_region_lit ?_
    refine goCh Hz (.fieldAddr (off := 8) rfl Tryz.underlying55 rfl (s := 0) (by kernel_rfl) rfl <| .loadB1 m5 (i := 30) rfl rfl rfl Tryz.underlying4 rfl <| .move rfl <| .nil) ?_
    clear Hz Az; intro Az Hz
    refine bool_cases Hz (t := 118) rfl ?_ ?_
    ·
     clear Hz; intro hb42 Hz
     try simp only [Q1x, Q2x, Q3x, Q4x, Q5x, Q6x, Q7x, Q8x, Q9x, Q0x, Qax, Qbx] at hb42
     refine goCh Hz (.moveZ rfl <| .nilCheckZ rfl <| .fieldAddrZ (off := 7) rfl Tryz.underlying91 rfl (s := 0) (by kernel_rfl) rfl <| .loadB1Z m5 (i := 1) rfl rfl rfl Tryz.underlying3 rfl <| .eqlZ rfl rfl <| .pickT rfl rfl <| .nil) ?_
     clear Hz Az; intro Az Hz
     refine wpList_nil ?_
     refine hK6 _ _ ?_; clear hK6; try clear K6
     refine bool_cases Hz (t := 124) rfl ?_ ?_
     ·
      clear Hz; intro hb49 Hz
      try simp only [Q1x, Q2x, Q3x, Q4x, Q5x, Q6x, Q7x, Q8x, Q9x, Q0x, Qax, Qbx] at hb49
      refine wp_cond_true (Hz.ev (x := .tmp 124) rfl) ?_
      refine wp_seq_k (fun K7 hK7 => ?_)
      have hC7 : ∀ (a : Act) (w : World), (∃ (py : Option Addr) (cy : Nat), Has 291 [(0, .pointer (some ⟨R, 0, none⟩)), (3, .pointer (some ⟨Bm, 0, none⟩))] a ∧ MemOk X w0 ((30, .box Bm 55 [.int .i64 4, .int .i64 gm, .int .i64 f, .int .i64 t, .int .i64 te, .int .i64 ix, .int .i64 lt, .int .i64 co, .bool ok, .slice none 0 0, .int .i64 0, .int .i64 0, .slice none 0 0, .slice none 0 0, .slice none 0 0, .int .i64 0, .int .i64 0, .int .i64 0, .int .i64 0]) :: rwM R { s1 with ys := s1.ys ++ [f] } { p1 with py := py, cy := cy }) w) → K7 a w := by
        clear Hz m5
        rintro Az w50 ⟨py, cy, Hz, m50⟩
        refine hK7 _ _ ?_; clear hK7; try clear K7
        refine wp_seq_k (fun K8 hK8 => ?_)
        refine wp_region_lit ?_
        refine goCh Hz (.move rfl .nil) ?_
        clear Hz Az; intro Az Hz
        refine wpList_plain rfl (fun K hK => ?_)
        refine e_call Hz Tryz.func63 rfl rfl rfl rfl (wfav_s R { s1 with ys := s1.ys ++ [f] } { p1 with py := py, cy := cy } _ (rwM_is { s1 with ys := s1.ys ++ [f] } { p1 with py := py, cy := cy } (m50.into [(1, 1), (2, 2), (3, 3), (4, 4), (5, 5), (6, 6), (7, 7), (8, 8)] (by decide) rfl)) hk1.l hw1 (by show (s1.ys ++ [f]).length ≤ 900; rw [List.length_append]; have := hk1.ys; simp; omega)) ?_
        rintro e w53 ⟨rfl, hb53⟩
        have m54 := m50.later hb53
        clear m50
        clear hb53
        refine ⟨_, rfl, ?_⟩; clear Hz Az; intro Az Hz
        refine hK _ _ ?_; clear hK K
        refine wpList_nil ?_
        refine hK8 _ _ ?_; clear hK8; try clear K8
        refine bool_cases Hz (t := 138) rfl ?_ ?_
        ·
         clear Hz; intro hb56 Hz
         try simp only [Q1x, Q2x, Q3x, Q4x, Q5x, Q6x, Q7x, Q8x, Q9x, Q0x, Qax, Qbx] at hb56
         refine wp_cond_true (Hz.ev (x := .tmp 138) rfl) ?_
         refine wp_region_lit ?_
         refine goCh Hz (.move rfl .nil) ?_
         clear Hz Az; intro Az Hz
         refine wpList_plain rfl (fun K hK => ?_)
         refine e_call Hz Tryz.func107 rfl rfl rfl rfl (wlead_s _ R { s1 with ys := s1.ys ++ [f] } { p1 with py := py, cy := cy } _ hk1.l hw1 (Nat.lt_of_lt_of_le hk1.n (by decide)) (Nat.le_trans hk1.rs (by decide)) hk1.co hk1.ld (Nat.le_trans hk1.ms (by decide)) (m54.into [(1, 1), (2, 2), (3, 3), (4, 4), (5, 5), (6, 6), (7, 7), (8, 8)] (by decide) rfl)) ?_
         rintro e w58 ⟨p9, rfl, hm58⟩
         have mx58 := m54.back hm58 [(1, 1), (2, 2), (3, 3), (4, 4), (5, 5), (6, 6), (7, 7), (8, 8)] (by decide); clear hm58 m54
         have m58 : MemOk _ _ [(1, _), (2, _), (3, _), (4, _), (5, _), (6, _), (7, _), (8, _), (30, _)] _ := mx58.only [1, 2, 3, 4, 5, 6, 7, 8, 30]; clear mx58
         refine ⟨_, rfl, ?_⟩; clear Hz Az; intro Az Hz
         refine hK _ _ ?_; clear hK K
         refine wpList_nil ?_
         try dsimp only [Exit.then, Exit.inBlock]
         try refine out_here ?_
         refine (ret0 (fn := Tryz.f66) Hz rfl ?_)
         have e9 : voteOkW s f te ok = winS { s1 with ys := s1.ys ++ [f] } := by unfold voteOkW; rw [← h1]; exact vo_yes s1 hb14 hb42 hb49 hb56
         rw [e9]
         exact ⟨p9, rfl, m58.only [1, 2, 3, 4, 5, 6, 7, 8]⟩
        ·
         clear Hz; intro hb56 Hz
         try simp only [Q1x, Q2x, Q3x, Q4x, Q5x, Q6x, Q7x, Q8x, Q9x, Q0x, Qax, Qbx] at hb56
         refine wp_cond_false (Hz.ev (x := .tmp 138) rfl) ?_
         refine wp_skip ?_
         try dsimp only [Exit.then, Exit.inBlock]
         try refine out_here ?_
         refine (ret0 (fn := Tryz.f66) Hz rfl ?_)
         have e9 : voteOkW s f te ok = { s1 with ys := s1.ys ++ [f] } := by unfold voteOkW; rw [← h1]; exact vo_wait s1 hb14 hb42 hb49 hb56
         rw [e9]
         exact ⟨{ p1 with py := py, cy := cy }, rfl, m54.only [1, 2, 3, 4, 5, 6, 7, 8]⟩
      replace Hz : Has 291 [(0, _), (3, _), (29, _), (58, _), (118, _), (123, _), (124, _)] Az := Hz.only [0, 3, 29, 58, 118, 123, 124]
      have m61 : MemOk _ _ [(1, _), (2, _), (3, _), (4, _), (5, _), (6, _), (7, _), (8, _), (30, _)] _ := m5.only [1, 2, 3, 4, 5, 6, 7, 8, 30]; clear m5
      refine region_p 12 (B := [(1, _), (2, _), (3, _), (4, _), (5, _), (6, _), (7, _), (8, _), (30, _)]) (m61.to ⟨il, il, il, il, il, il, il, il, il, trivial⟩) m61 (by kernel_rfl) (fun w62 hP62 m62 => ?_); clear m61
      refine goR hP62 [0, 1, 2, 3, 4, 6, 7] [4, 7] 7 0 223 Hz (m62.to ⟨il, il, il, il, il, il, il, il, il, trivial⟩) (.move rfl <| .move rfl <| .nilCheck rfl <| .fieldAddr (off := 9) rfl Tryz.underlying91 rfl (s := 0) (by kernel_rfl) rfl <| .loadB1 hh (i := 1) rfl rfl rfl Tryz.underlying26 rfl <| .fieldAddr (off := 2) rfl Tryz.underlying55 rfl (s := 0) (by kernel_rfl) rfl <| .loadB1 hh (i := 30) rfl rfl rfl Tryz.underlying3 rfl <| .nil) ?_
      clear Hz Az; intro Az Hz
      refine d_two 5 8 rfl rfl (by kernel_rfl) rfl rfl (fun K hK => ?_) (fun K hK => ?_)
      ·
       refine e_app0N Hz m62 100 rfl rfl (m62.nums (i := 6) rfl) Tryz.underlying26 inf3wrx (by decide) (by omega) rfl ?_
       clear Hz Az m62; intro p70 c70 Az w71 Hz m71
       refine hK _ _ (fun _ => (m71.to ⟨il, il, il, il, il, il, il, il, il, trivial⟩)) ?_; clear hK K
       refine stepE_only 8 rfl (by kernel_rfl) rfl (fun K hK => ?_)
       refine e_litN Hz m71 101 (k := .i64) rfl rfl Tryz.underlying26 inf3wrx rfl rfl rfl rfl ?_
       clear Hz Az m71; intro g72 Az w73 Hz m73
       refine hK _ _ (m73.to ⟨il, il, il, il, il, il, il, il, il, trivial⟩) ?_; clear hK K
       refine stepE_only 9 rfl (by kernel_rfl) rfl (fun K hK => ?_)
       refine e_appN Hz m73 100 rfl rfl rfl (m73.numsO (i := 101) rfl) Tryz.underlying26 inf3wrx (by decide) (by simp; omega) rfl ?_
       clear Hz Az m73; intro p74 c74 Az w75 Hz m75
       refine hK _ _ (m75.to ⟨il, il, il, il, il, il, il, il, il, trivial⟩) ?_; clear hK K
       refine goA hP62 [10, 11] 2 1023 4095 Hz (m75.to ⟨il, il, il, il, il, il, il, il, il, trivial⟩) (.nilCheck rfl <| .fieldAddr (off := 9) rfl Tryz.underlying91 rfl (s := 0) (by kernel_rfl) rfl <| .nil) ?_
       clear Hz Az; intro Az Hz
       refine stepE_end 12 rfl (by kernel_rfl) rfl (by rfl) (fun K hK => ?_)
       refine e_store1 Hz m75 1 rfl rfl rfl rfl rfl sz26wrx (by dsimp only [List.set] <;> rfl) ?_
       clear m75; intro w78 m78 hB78
       clear hB78
       refine hK _ _ ?_; clear hK K
       refine wpAnyE_done (by kernel_rfl) ?_ _
       have m79 := m78.freezeN 100 rfl; clear m78
       show K7 _ _
       exact hC7 _ _ ⟨p74, c74, Hz.only [0, 3], m79.ren [(30, 30), (1, 1), (2, 2), (3, 3), (4, 4), (5, 5), (6, 100), (7, 7), (8, 8)] (by decide)⟩
      ·
       refine e_litN Hz m62 100 (k := .i64) rfl rfl Tryz.underlying26 inf3wrx rfl rfl rfl rfl ?_
       clear Hz Az m62; intro g80 Az w81 Hz m81
       refine hK _ _ (fun _ => (m81.to ⟨il, il, il, il, il, il, il, il, il, trivial⟩)) ?_; clear hK K
       refine stepE_only 5 rfl (by kernel_rfl) rfl (fun K hK => ?_)
       refine e_app0N Hz m81 101 rfl rfl (m81.nums (i := 6) rfl) Tryz.underlying26 inf3wrx (by decide) (by omega) rfl ?_
       clear Hz Az m81; intro p82 c82 Az w83 Hz m83
       refine hK _ _ (m83.to ⟨il, il, il, il, il, il, il, il, il, trivial⟩) ?_; clear hK K
       refine stepE_only 9 rfl (by kernel_rfl) rfl (fun K hK => ?_)
       refine e_appN Hz m83 101 rfl rfl rfl (m83.numsO (i := 100) rfl) Tryz.underlying26 inf3wrx (by decide) (by simp; omega) rfl ?_
       clear Hz Az m83; intro p84 c84 Az w85 Hz m85
       refine hK _ _ (m85.to ⟨il, il, il, il, il, il, il, il, il, trivial⟩) ?_; clear hK K
       refine goA hP62 [10, 11] 2 1023 4095 Hz (m85.to ⟨il, il, il, il, il, il, il, il, il, trivial⟩) (.nilCheck rfl <| .fieldAddr (off := 9) rfl Tryz.underlying91 rfl (s := 0) (by kernel_rfl) rfl <| .nil) ?_
       clear Hz Az; intro Az Hz
       refine stepE_end 12 rfl (by kernel_rfl) rfl (by rfl) (fun K hK => ?_)
       refine e_store1 Hz m85 1 rfl rfl rfl rfl rfl sz26wrx (by dsimp only [List.set] <;> rfl) ?_
       clear m85; intro w88 m88 hB88
       clear hB88
       refine hK _ _ ?_; clear hK K
       refine wpAnyE_done (by kernel_rfl) ?_ _
       have m89 := m88.freezeN 101 rfl; clear m88
       show K7 _ _
       exact hC7 _ _ ⟨p84, c84, Hz.only [0, 3], m89.ren [(30, 30), (1, 1), (2, 2), (3, 3), (4, 4), (5, 5), (6, 101), (7, 7), (8, 8)] (by decide)⟩
     ·
      clear Hz; intro hb49 Hz
      try simp only [Q1x, Q2x, Q3x, Q4x, Q5x, Q6x, Q7x, Q8x, Q9x, Q0x, Qax, Qbx] at hb49
      refine wp_cond_false (Hz.ev (x := .tmp 124) rfl) ?_
      refine wp_skip ?_
      try dsimp only [Exit.then, Exit.inBlock]
      try refine out_here ?_
      refine (ret0 (fn := Tryz.f66) Hz rfl ?_)
      have e9 : voteOkW s f te ok = s1 := by unfold voteOkW; rw [← h1]; exact vo_no s1 (.inr hb49)
      rw [e9]
      exact ⟨p1, rfl, m5.only [1, 2, 3, 4, 5, 6, 7, 8]⟩
    ·
     clear Hz; intro hb42 Hz
     try simp only [Q1x, Q2x, Q3x, Q4x, Q5x, Q6x, Q7x, Q8x, Q9x, Q0x, Qax, Qbx] at hb42
     refine goCh Hz (.sk <| .sk <| .sk <| .sk <| .sk <| .pickF rfl rfl <| .nil) ?_
     clear Hz Az; intro Az Hz
     refine wpList_nil ?_
     refine hK6 _ _ ?_; clear hK6; try clear K6
     refine wp_cond_false (Hz.ev (x := .tmp 124) rfl) ?_
     refine wp_skip ?_
     try dsimp only [Exit.then, Exit.inBlock]
     try refine out_here ?_
     refine (ret0 (fn := Tryz.f66) Hz rfl ?_)
     have e9 : voteOkW s f te ok = s1 := by unfold voteOkW; rw [← h1]; exact vo_no s1 (.inl hb42)
     rw [e9]
     exact ⟨p1, rfl, m5.only [1, 2, 3, 4, 5, 6, 7, 8]⟩
 refine wp_seq_k (fun K9 hK9 => ?_)
 have m96 : MemOk _ _ [(1, _), (2, _), (3, _), (4, _), (5, _), (6, _), (7, _), (8, _), (30, _)] _ := m2.only [1, 2, 3, 4, 5, 6, 7, 8, 30]; clear m2
 refine region_p 8 (B := [(1, _), (2, _), (3, _), (4, _), (5, _), (6, _), (7, _), (8, _), (30, _)]) (m96.to ⟨il, il, il, il, il, il, il, il, il, trivial⟩) m96 (by kernel_rfl) (fun w97 hP97 m97 => ?_); clear m96
 refine goR hP97 [0, 1, 2, 3, 4, 5, 6, 7] [1, 6] 8 0 255 Hz (m97.to ⟨il, il, il, il, il, il, il, il, il, trivial⟩) (.fieldAddr (off := 4) rfl Tryz.underlying55 rfl (s := 0) (by kernel_rfl) rfl <| .loadB1 hh (i := 30) rfl rfl rfl Tryz.underlying3 rfl <| .move rfl <| .nilCheck rfl <| .fieldAddr (off := 2) rfl Tryz.underlying91 rfl (s := 1) (by kernel_rfl) rfl <| .fieldAddr (off := 2) rfl Tryz.underlying25 rfl (s := 0) (by kernel_rfl) rfl <| .loadB1 hh (i := 1) rfl rfl rfl Tryz.underlying3 rfl <| .gtr rfl rfl <| .nil) ?_
 clear Hz Az; intro Az Hz
 refine wpAnyE_done (by kernel_rfl) ?_ _
 refine hK9 _ _ ?_; clear hK9; try clear K9
 refine bool_cases Hz (t := 17) rfl ?_ ?_
 ·
  clear Hz; intro hb106 Hz
  try simp only [Q1x, Q2x, Q3x, Q4x, Q5x, Q6x, Q7x, Q8x, Q9x, Q0x, Qax, Qbx] at hb106
  refine wp_cond_true (Hz.ev (x := .tmp 17) rfl) ?_
  replace Hz : Has 291 [(0, _), (3, _), (17, _)] Az := Hz.only [0, 3, 17]
  refine wp_region_lit ?_
  refine goCh Hz (.move rfl <| .fieldAddr (off := 4) rfl Tryz.underlying55 rfl (s := 0) (by kernel_rfl) rfl <| .loadB1 m97 (i := 30) rfl rfl rfl Tryz.underlying3 rfl <| .nil) ?_
  clear Hz Az; intro Az Hz
  refine wpList_plain rfl (fun K hK => ?_)
  refine e_call Hz Tryz.func65 rfl rfl rfl rfl (wdown_s _ R s p te _ (by have := hk.rs; omega) (m97.into [(1, 1), (2, 2), (3, 3), (4, 4), (5, 5), (6, 6), (7, 7), (8, 8)] (by decide) rfl)) ?_
  rintro e w111 ⟨p1, rfl, hm111⟩
  have mx111 := m97.back hm111 [(1, 1), (2, 2), (3, 3), (4, 4), (5, 5), (6, 6), (7, 7), (8, 8)] (by decide); clear hm111 m97
  have m111 : MemOk _ _ [(1, _), (2, _), (3, _), (4, _), (5, _), (6, _), (7, _), (8, _), (30, _)] _ := mx111.only [1, 2, 3, 4, 5, 6, 7, 8, 30]; clear mx111
  refine ⟨_, rfl, ?_⟩; clear Hz Az; intro Az Hz
  refine hK _ _ ?_; clear hK K
  refine wpList_nil ?_
  show K1 _ _
  exact hC1 _ _ ⟨_, _, _, dn_yes s hb106, Hz.only [0, 3], m111.ren [(30, 30), (1, 1), (2, 2), (3, 3), (4, 4), (5, 5), (6, 6), (7, 7), (8, 8)] (by decide)⟩
 ·
  clear Hz; intro hb106 Hz
  try simp only [Q1x, Q2x, Q3x, Q4x, Q5x, Q6x, Q7x, Q8x, Q9x, Q0x, Qax, Qbx] at hb106
  refine wp_cond_false (Hz.ev (x := .tmp 17) rfl) ?_
  refine wp_skip ?_
  show K1 _ _
  exact hC1 _ _ ⟨_, _, _, dn_no s hb106, Hz.only [0, 3], m97.ren [(30, 30), (1, 1), (2, 2), (3, 3), (4, 4), (5, 5), (6, 6), (7, 7), (8, 8)] (by decide)⟩
end
section
theorem sz48wRVote : (Tryz.prog.info? 48).map (·.size) = some 3 := by kernel_rfl
theorem sz55wRVote : (Tryz.prog.info? 55).map (·.size) = some 19 := by kernel_rfl
theorem zc48wRVote : ((Tryz.prog.info? 48).bind (·.zero)).map (·.cells.toList) = some [.slice none 0 0, .slice none 0 0, .bool false] := by kernel_rfl
theorem sz48wRVoteOk : (Tryz.prog.info? 48).map (·.size) = some 3 := by kernel_rfl
theorem sz55wRVoteOk : (Tryz.prog.info? 55).map (·.size) = some 19 := by kernel_rfl
theorem zc48wRVoteOk : ((Tryz.prog.info? 48).bind (·.zero)).map (·.cells.toList) = some [.slice none 0 0, .slice none 0 0, .bool false] := by kernel_rfl

set_option maxRecDepth 100000
set_option maxHeartbeats 4000000
theorem wRecvVote_s (X : Cx) (R : Nat) (s : RS) (p : RP) (gm f t te ix lt co : Int) (ok : Bool) (w0 : World) (hk : ROk s) (hg : gm = s.x.gr) (ht : t = s.x.id) (hf : f ≠ s.x.id) (hkd : ROk (dnS s te)) (hwd : WLS (dnS s te)) (m0 : MemOk X w0 (rwM R s p) w0) :
   Calls Tryz.prog 24 #[.pointer (some ⟨R, 0, none⟩), .agg #[.int .i64 3, .int .i64 gm, .int .i64 f, .int .i64 t, .int .i64 te, .int .i64 ix, .int .i64 lt, .int .i64 co, .bool ok, .slice none 0 0, .int .i64 0, .int .i64 0, .slice none 0 0, .slice none 0 0, .slice none 0 0, .int .i64 0, .int .i64 0, .int .i64 0, .int .i64 0]] w0 fun e w' => ∃ p' o', e = .returned (.agg #[.slice o'.pm ((voteW s f te ix lt).ms.map rmD).length o'.cm, .slice o'.pq ((voteW s f te ix lt).rs.map rrD).length o'.cq, .bool (voteW s f te ix lt).re]) ∧ MemOk X w0 (ouM (voteW s f te ix lt) o' (rwM R (clrS (voteW s f te ix lt)) (nilP p'))) w' := by
 refine enter (fn := Tryz.f24) Tryz.func24 rfl Tryz.ntmps24 rfl (fun Az Hz => ?_)
 simp only [List.zipIdx_cons, List.zipIdx_nil, List.map_cons, List.map_nil, Nat.reduceAdd, Nat.zero_add] at Hz
 refine wp_seq_k (fun K0 hK0 => ?_)
 refine wp_region_lit ?_
 refine wpList_plain rfl (fun K hK => ?_)
 refine e_box Hz m0 70 (cs := [_, _, _, _, _, _, _, _, _, _, _, _, _, _, _, _, _, _, _]) rfl rfl rfl ?_
 clear Hz Az m0; intro g1 Az w2 Hz m2 hB2 hg2
 clear hB2 hg2
 refine hK _ _ ?_; clear hK K
 refine wpList_plain rfl (fun K hK => ?_)
 refine e_alloc Hz m2 71 zc48wRVote rfl ?_
 clear Hz Az m2; intro g3 Az w4 Hz m4 hB4 hg4
 clear hB4 hg4
 refine hK _ _ ?_; clear hK K
 refine wpList_nil ?_
 refine hK0 _ _ ?_; clear hK0; try clear K0
 refine wp_seq_k (fun K1 hK1 => ?_)
 refine wp_seq_k (fun K2 hK2 => ?_)
 have m5 : MemOk _ _ [(1, _), (2, _), (3, _), (4, _), (5, _), (6, _), (7, _), (8, _), (70, _), (71, _)] _ := m4.only [1, 2, 3, 4, 5, 6, 7, 8, 70, 71]; clear m4
 refine region_p 25 (B := [(1, _), (2, _), (3, _), (4, _), (5, _), (6, _), (7, _), (8, _), (70, _), (71, _)]) (m5.to ⟨il, il, il, il, il, il, il, il, il, il, trivial⟩) m5 (by kernel_rfl) (fun w6 hP6 m6 => ?_); clear m5
 refine goR hP6 [0, 1, 2, 3, 4, 5, 6, 7] [1, 5] 8 0 255 Hz (m6.to ⟨il, il, il, il, il, il, il, il, il, il, trivial⟩) (.fieldAddr (off := 1) rfl Tryz.underlying55 rfl (s := 0) (by kernel_rfl) rfl <| .loadB1 hh (i := 70) rfl rfl rfl Tryz.underlying3 rfl <| .move rfl <| .nilCheck rfl <| .fieldAddr (off := 1) rfl Tryz.underlying91 rfl (s := 0) (by kernel_rfl) rfl <| .loadB1 hh (i := 1) rfl rfl rfl Tryz.underlying3 rfl <| .neq rfl rfl <| .move rfl <| .nil) ?_
 clear Hz Az; intro Az Hz
 refine bool_cases Hz (t := 14) rfl ?_ ?_
 · intro hb _; exact absurd hb (by simp; omega)
 clear Hz; intro _ Hz
 refine goR hP6 [8, 9, 10, 11, 12, 13, 14, 15, 16] [9, 13] 9 255 131071 Hz (m6.to ⟨il, il, il, il, il, il, il, il, il, il, trivial⟩) (.fieldAddr (off := 3) rfl Tryz.underlying55 rfl (s := 0) (by kernel_rfl) rfl <| .loadB1 hh (i := 70) rfl rfl rfl Tryz.underlying3 rfl <| .move rfl <| .nilCheck rfl <| .fieldAddr (off := 0) rfl Tryz.underlying91 rfl (s := 0) (by kernel_rfl) rfl <| .loadB1 hh (i := 1) rfl rfl rfl Tryz.underlying3 rfl <| .neq rfl rfl <| .pickF rfl rfl <| .move rfl <| .nil) ?_
 clear Hz Az; intro Az Hz
 refine bool_cases Hz (t := 23) rfl ?_ ?_
 · intro hb _; exact absurd hb (by simp; omega)
 clear Hz; intro _ Hz
 refine goR hP6 [17, 18, 19, 20, 21, 22, 23, 24] [18, 22] 8 131071 33554431 Hz (m6.to ⟨il, il, il, il, il, il, il, il, il, il, trivial⟩) (.fieldAddr (off := 2) rfl Tryz.underlying55 rfl (s := 0) (by kernel_rfl) rfl <| .loadB1 hh (i := 70) rfl rfl rfl Tryz.underlying3 rfl <| .move rfl <| .nilCheck rfl <| .fieldAddr (off := 0) rfl Tryz.underlying91 rfl (s := 0) (by kernel_rfl) rfl <| .loadB1 hh (i := 1) rfl rfl rfl Tryz.underlying3 rfl <| .eql rfl rfl <| .pickF rfl rfl <| .nil) ?_
 clear Hz Az; intro Az Hz
 refine wpAnyE_done (by kernel_rfl) ?_ _
 refine hK2 _ _ ?_; clear hK2; try clear K2
 refine bool_cases Hz (t := 31) rfl ?_ ?_
 · intro hb _; exact absurd hb (by simp; omega)
 clear Hz; intro _ Hz
 refine wp_cond_false (Hz.ev (x := .tmp 31) rfl) ?_
 refine wp_skip ?_
 refine hK1 _ _ ?_; clear hK1; try clear K1
 refine wp_seq_k (fun K3 hK3 => ?_)
 replace Hz : Has 152 [(0, _), (3, _), (4, _)] Az := Hz.only [0, 3, 4]
 refine regS Hz (.fieldAddr (off := 0) rfl Tryz.underlying55 rfl (s := 0) (by kernel_rfl) rfl <| .loadB1 m6 (i := 70) rfl rfl rfl Tryz.underlying3 rfl <| .nil) ?_
 clear Hz Az; intro Az Hz
 refine wp_block ?_
 refine regS Hz (.eql rfl rfl <| .assign rfl <| .nil) ?_
 clear Hz Az; intro Az Hz
 refine bool_cases Hz (t := 35) rfl ?_ ?_
 · intro hb _; exact absurd hb (by decide)
 clear Hz; intro _ Hz
 refine wp_cond_false (Hz.ev (x := .tmp 35) rfl) ?_
 refine regS Hz (.eql rfl rfl <| .assign rfl <| .nil) ?_
 clear Hz Az; intro Az Hz
 refine bool_cases Hz (t := 86) rfl ?_ ?_
 · intro hb _; exact absurd hb (by decide)
 clear Hz; intro _ Hz
 refine wp_cond_false (Hz.ev (x := .tmp 86) rfl) ?_
 refine wp_seq_k (fun K4 hK4 => ?_)
 refine regS Hz (.eql rfl rfl <| .assign rfl <| .nil) ?_
 clear Hz Az; intro Az Hz
 refine bool_cases Hz (t := 141) rfl ?_ ?_
 rotate_left
 · intro hb _; exact absurd hb (by decide)
 clear Hz; intro _ Hz
 refine wp_cond_true (Hz.ev (x := .tmp 141) rfl) ?_
 refine wp_skip ?_
 refine hK4 _ _ ?_; clear hK4; try clear K4
 refine wp_cond_true (Hz.ev (x := .tmp 141) rfl) ?_
 replace Hz : Has 152 [(0, _), (3, _), (4, _), (142, _)] Az := Hz.only [0, 3, 4, 142]
 refine wp_region_lit ?_
 refine goCh Hz (.move rfl <| .loadBR m6 (i := 70) rfl rfl Tryz.underlying55 rfl sz55wRVote (by simp) (by dsimp only [List.drop, List.take] <;> rfl) <| .nil) ?_
 clear Hz Az; intro Az Hz
 refine wpList_plain rfl (fun K hK => ?_)
 refine e_call Hz Tryz.func66 rfl rfl rfl rfl (wrecvVote_s _ R s p gm f t te ix lt co ok _ hk hkd hwd (m6.into [(1, 1), (2, 2), (3, 3), (4, 4), (5, 5), (6, 6), (7, 7), (8, 8)] (by decide) rfl)) ?_
 rintro e w50 ⟨p2, rfl, hm50⟩
 have mx50 := m6.back hm50 [(1, 1), (2, 2), (3, 3), (4, 4), (5, 5), (6, 6), (7, 7), (8, 8)] (by decide); clear hm50 m6
 have m50 : MemOk _ _ [(1, _), (2, _), (3, _), (4, _), (5, _), (6, _), (7, _), (8, _), (70, _), (71, _)] _ := mx50.only [1, 2, 3, 4, 5, 6, 7, 8, 70, 71]; clear mx50
 refine ⟨_, rfl, ?_⟩; clear Hz Az; intro Az Hz
 refine hK _ _ ?_; clear hK K
 refine wpList_nil ?_
 refine hK3 _ _ ?_; clear hK3; try clear K3
 refine wp_seq_k (fun K5 hK5 => ?_)
 refine wp_region_lit ?_
 refine goCh Hz (.move rfl .nil) ?_
 clear Hz Az; intro Az Hz
 refine wpList_plain rfl (fun K hK => ?_)
 refine e_call Hz Tryz.func53 rfl rfl rfl rfl (wsaid_s _ R (voteW s f te ix lt) p2 _ (m50.into [(1, 1), (2, 2), (3, 3), (4, 4), (5, 5), (6, 6), (7, 7), (8, 8)] (by decide) rfl)) ?_
 rintro e w54 ⟨p9, o9, rfl, hm54⟩
 have mx54 := m50.back hm54 [(1, 1), (2, 2), (3, 3), (4, 4), (5, 5), (6, 6), (7, 7), (8, 8), (11, 11), (12, 12)] (by decide); clear hm54 m50
 have m54 : MemOk _ _ [(1, _), (2, _), (3, _), (4, _), (5, _), (6, _), (7, _), (8, _), (11, _), (12, _), (70, _), (71, _)] _ := mx54.only [1, 2, 3, 4, 5, 6, 7, 8, 11, 12, 70, 71]; clear mx54
 refine ⟨_, rfl, ?_⟩; clear Hz Az; intro Az Hz
 refine hK _ _ ?_; clear hK K
 refine wpList_plain rfl (fun K hK => ?_)
 refine e_storeW Hz m54 71 rfl rfl rfl rfl rfl sz48wRVote ?_
 clear m54; intro w56 m56 hB56
 clear hB56
 refine hK _ _ ?_; clear hK K
 refine wpList_nil ?_
 refine hK5 _ _ ?_; clear hK5; try clear K5
 refine wp_ret ?_
 try dsimp only [Exit.then, Exit.inBlock]
 refine (retC (fn := Tryz.f24) Hz m56 (i := 71) rfl rfl rfl Tryz.underlying48 rfl sz48wRVote ?_)
 exact ⟨p9, o9, rfl, m56.only [11, 12, 1, 2, 3, 4, 5, 6, 7, 8]⟩
theorem wRecvVoteOk_s (X : Cx) (R : Nat) (s : RS) (p : RP) (gm f t te ix lt co : Int) (ok : Bool) (w0 : World) (hk : ROk s) (hg : gm = s.x.gr) (ht : t = s.x.id) (hf : f ≠ s.x.id) (hkd : ROk (dnS s te)) (hwd : WLS (dnS s te)) (m0 : MemOk X w0 (rwM R s p) w0) :
   Calls Tryz.prog 24 #[.pointer (some ⟨R, 0, none⟩), .agg #[.int .i64 4, .int .i64 gm, .int .i64 f, .int .i64 t, .int .i64 te, .int .i64 ix, .int .i64 lt, .int .i64 co, .bool ok, .slice none 0 0, .int .i64 0, .int .i64 0, .slice none 0 0, .slice none 0 0, .slice none 0 0, .int .i64 0, .int .i64 0, .int .i64 0, .int .i64 0]] w0 fun e w' => ∃ p' o', e = .returned (.agg #[.slice o'.pm ((voteOkW s f te ok).ms.map rmD).length o'.cm, .slice o'.pq ((voteOkW s f te ok).rs.map rrD).length o'.cq, .bool (voteOkW s f te ok).re]) ∧ MemOk X w0 (ouM (voteOkW s f te ok) o' (rwM R (clrS (voteOkW s f te ok)) (nilP p'))) w' := by
 refine enter (fn := Tryz.f24) Tryz.func24 rfl Tryz.ntmps24 rfl (fun Az Hz => ?_)
 simp only [List.zipIdx_cons, List.zipIdx_nil, List.map_cons, List.map_nil, Nat.reduceAdd, Nat.zero_add] at Hz
 refine wp_seq_k (fun K0 hK0 => ?_)
 refine wp_region_lit ?_
 refine wpList_plain rfl (fun K hK => ?_)
 refine e_box Hz m0 70 (cs := [_, _, _, _, _, _, _, _, _, _, _, _, _, _, _, _, _, _, _]) rfl rfl rfl ?_
 clear Hz Az m0; intro g1 Az w2 Hz m2 hB2 hg2
 clear hB2 hg2
 refine hK _ _ ?_; clear hK K
 refine wpList_plain rfl (fun K hK => ?_)
 refine e_alloc Hz m2 71 zc48wRVoteOk rfl ?_
 clear Hz Az m2; intro g3 Az w4 Hz m4 hB4 hg4
 clear hB4 hg4
 refine hK _ _ ?_; clear hK K
 refine wpList_nil ?_
 refine hK0 _ _ ?_; clear hK0; try clear K0
 refine wp_seq_k (fun K1 hK1 => ?_)
 refine wp_seq_k (fun K2 hK2 => ?_)
 have m5 : MemOk _ _ [(1, _), (2, _), (3, _), (4, _), (5, _), (6, _), (7, _), (8, _), (70, _), (71, _)] _ := m4.only [1, 2, 3, 4, 5, 6, 7, 8, 70, 71]; clear m4
 refine region_p 25 (B := [(1, _), (2, _), (3, _), (4, _), (5, _), (6, _), (7, _), (8, _), (70, _), (71, _)]) (m5.to ⟨il, il, il, il, il, il, il, il, il, il, trivial⟩) m5 (by kernel_rfl) (fun w6 hP6 m6 => ?_); clear m5
 refine goR hP6 [0, 1, 2, 3, 4, 5, 6, 7] [1, 5] 8 0 255 Hz (m6.to ⟨il, il, il, il, il, il, il, il, il, il, trivial⟩) (.fieldAddr (off := 1) rfl Tryz.underlying55 rfl (s := 0) (by kernel_rfl) rfl <| .loadB1 hh (i := 70) rfl rfl rfl Tryz.underlying3 rfl <| .move rfl <| .nilCheck rfl <| .fieldAddr (off := 1) rfl Tryz.underlying91 rfl (s := 0) (by kernel_rfl) rfl <| .loadB1 hh (i := 1) rfl rfl rfl Tryz.underlying3 rfl <| .neq rfl rfl <| .move rfl <| .nil) ?_
 clear Hz Az; intro Az Hz
 refine bool_cases Hz (t := 14) rfl ?_ ?_
 · intro hb _; exact absurd hb (by simp; omega)
 clear Hz; intro _ Hz
 refine goR hP6 [8, 9, 10, 11, 12, 13, 14, 15, 16] [9, 13] 9 255 131071 Hz (m6.to ⟨il, il, il, il, il, il, il, il, il, il, trivial⟩) (.fieldAddr (off := 3) rfl Tryz.underlying55 rfl (s := 0) (by kernel_rfl) rfl <| .loadB1 hh (i := 70) rfl rfl rfl Tryz.underlying3 rfl <| .move rfl <| .nilCheck rfl <| .fieldAddr (off := 0) rfl Tryz.underlying91 rfl (s := 0) (by kernel_rfl) rfl <| .loadB1 hh (i := 1) rfl rfl rfl Tryz.underlying3 rfl <| .neq rfl rfl <| .pickF rfl rfl <| .move rfl <| .nil) ?_
 clear Hz Az; intro Az Hz
 refine bool_cases Hz (t := 23) rfl ?_ ?_
 · intro hb _; exact absurd hb (by simp; omega)
 clear Hz; intro _ Hz
 refine goR hP6 [17, 18, 19, 20, 21, 22, 23, 24] [18, 22] 8 131071 33554431 Hz (m6.to ⟨il, il, il, il, il, il, il, il, il, il, trivial⟩) (.fieldAddr (off := 2) rfl Tryz.underlying55 rfl (s := 0) (by kernel_rfl) rfl <| .loadB1 hh (i := 70) rfl rfl rfl Tryz.underlying3 rfl <| .move rfl <| .nilCheck rfl <| .fieldAddr (off := 0) rfl Tryz.underlying91 rfl (s := 0) (by kernel_rfl) rfl <| .loadB1 hh (i := 1) rfl rfl rfl Tryz.underlying3 rfl <| .eql rfl rfl <| .pickF rfl rfl <| .nil) ?_
 clear Hz Az; intro Az Hz
 refine wpAnyE_done (by kernel_rfl) ?_ _
 refine hK2 _ _ ?_; clear hK2; try clear K2
 refine bool_cases Hz (t := 31) rfl ?_ ?_
 · intro hb _; exact absurd hb (by simp; omega)
 clear Hz; intro _ Hz
 refine wp_cond_false (Hz.ev (x := .tmp 31) rfl) ?_
 refine wp_skip ?_
 refine hK1 _ _ ?_; clear hK1; try clear K1
 refine wp_seq_k (fun K3 hK3 => ?_)
 replace Hz : Has 152 [(0, _), (3, _), (4, _)] Az := Hz.only [0, 3, 4]
 refine regS Hz (.fieldAddr (off := 0) rfl Tryz.underlying55 rfl (s := 0) (by kernel_rfl) rfl <| .loadB1 m6 (i := 70) rfl rfl rfl Tryz.underlying3 rfl <| .nil) ?_
 clear Hz Az; intro Az Hz
 refine wp_block ?_
 refine regS Hz (.eql rfl rfl <| .assign rfl <| .nil) ?_
 clear Hz Az; intro Az Hz
 refine bool_cases Hz (t := 35) rfl ?_ ?_
 · intro hb _; exact absurd hb (by decide)
 clear Hz; intro _ Hz
 refine wp_cond_false (Hz.ev (x := .tmp 35) rfl) ?_
 refine regS Hz (.eql rfl rfl <| .assign rfl <| .nil) ?_
 clear Hz Az; intro Az Hz
 refine bool_cases Hz (t := 86) rfl ?_ ?_
 · intro hb _; exact absurd hb (by decide)
 clear Hz; intro _ Hz
 refine wp_cond_false (Hz.ev (x := .tmp 86) rfl) ?_
 refine wp_seq_k (fun K4 hK4 => ?_)
 refine regS Hz (.eql rfl rfl <| .assign rfl <| .nil) ?_
 clear Hz Az; intro Az Hz
 refine bool_cases Hz (t := 141) rfl ?_ ?_
 · intro hb _; exact absurd hb (by decide)
 clear Hz; intro _ Hz
 refine wp_cond_false (Hz.ev (x := .tmp 141) rfl) ?_
 refine regS Hz (.eql rfl rfl <| .assign rfl <| .nil) ?_
 clear Hz Az; intro Az Hz
 refine bool_cases Hz (t := 141) rfl ?_ ?_
 rotate_left
 · intro hb _; exact absurd hb (by decide)
 clear Hz; intro _ Hz
 refine wp_cond_true (Hz.ev (x := .tmp 141) rfl) ?_
 refine wp_skip ?_
 refine hK4 _ _ ?_; clear hK4; try clear K4
 refine wp_cond_true (Hz.ev (x := .tmp 141) rfl) ?_
 replace Hz : Has 152 [(0, _), (3, _), (4, _), (142, _), (143, _)] Az := Hz.only [0, 3, 4, 142, 143]
 refine wp_region_lit ?_
 refine goCh Hz (.move rfl <| .loadBR m6 (i := 70) rfl rfl Tryz.underlying55 rfl sz55wRVoteOk (by simp) (by dsimp only [List.drop, List.take] <;> rfl) <| .nil) ?_
 clear Hz Az; intro Az Hz
 refine wpList_plain rfl (fun K hK => ?_)
 refine e_call Hz Tryz.func66 rfl rfl rfl rfl (wrecvOk_s _ R s p gm f t te ix lt co ok _ hk hkd hwd (m6.into [(1, 1), (2, 2), (3, 3), (4, 4), (5, 5), (6, 6), (7, 7), (8, 8)] (by decide) rfl)) ?_
 rintro e w53 ⟨p2, rfl, hm53⟩
 have mx53 := m6.back hm53 [(1, 1), (2, 2), (3, 3), (4, 4), (5, 5), (6, 6), (7, 7), (8, 8)] (by decide); clear hm53 m6
 have m53 : MemOk _ _ [(1, _), (2, _), (3, _), (4, _), (5, _), (6, _), (7, _), (8, _), (70, _), (71, _)] _ := mx53.only [1, 2, 3, 4, 5, 6, 7, 8, 70, 71]; clear mx53
 refine ⟨_, rfl, ?_⟩; clear Hz Az; intro Az Hz
 refine hK _ _ ?_; clear hK K
 refine wpList_nil ?_
 refine hK3 _ _ ?_; clear hK3; try clear K3
 refine wp_seq_k (fun K5 hK5 => ?_)
 refine wp_region_lit ?_
 refine goCh Hz (.move rfl .nil) ?_
 clear Hz Az; intro Az Hz
 refine wpList_plain rfl (fun K hK => ?_)
 refine e_call Hz Tryz.func53 rfl rfl rfl rfl (wsaid_s _ R (voteOkW s f te ok) p2 _ (m53.into [(1, 1), (2, 2), (3, 3), (4, 4), (5, 5), (6, 6), (7, 7), (8, 8)] (by decide) rfl)) ?_
 rintro e w57 ⟨p9, o9, rfl, hm57⟩
 have mx57 := m53.back hm57 [(1, 1), (2, 2), (3, 3), (4, 4), (5, 5), (6, 6), (7, 7), (8, 8), (11, 11), (12, 12)] (by decide); clear hm57 m53
 have m57 : MemOk _ _ [(1, _), (2, _), (3, _), (4, _), (5, _), (6, _), (7, _), (8, _), (11, _), (12, _), (70, _), (71, _)] _ := mx57.only [1, 2, 3, 4, 5, 6, 7, 8, 11, 12, 70, 71]; clear mx57
 refine ⟨_, rfl, ?_⟩; clear Hz Az; intro Az Hz
 refine hK _ _ ?_; clear hK K
 refine wpList_plain rfl (fun K hK => ?_)
 refine e_storeW Hz m57 71 rfl rfl rfl rfl rfl sz48wRVoteOk ?_
 clear m57; intro w59 m59 hB59
 clear hB59
 refine hK _ _ ?_; clear hK K
 refine wpList_nil ?_
 refine hK5 _ _ ?_; clear hK5; try clear K5
 refine wp_ret ?_
 try dsimp only [Exit.then, Exit.inBlock]
 refine (retC (fn := Tryz.f24) Hz m59 (i := 71) rfl rfl rfl Tryz.underlying48 rfl sz48wRVoteOk ?_)
 exact ⟨p9, o9, rfl, m59.only [11, 12, 1, 2, 3, 4, 5, 6, 7, 8]⟩
end
section
theorem ps91wnw : placesS Tryz.prog 91 = some [(0, 1), (1, 1), (2, 2), (4, 1), (5, 1), (6, 1), (7, 1), (8, 1), (9, 1), (10, 7), (17, 7), (24, 1), (25, 1), (26, 3)] := by kernel_rfl
theorem sz25wnw : (Tryz.prog.info? 25).map (·.size) = some 2 := by kernel_rfl
theorem sz29wnw : (Tryz.prog.info? 29).map (·.size) = some 4 := by kernel_rfl
theorem zc91wnw : ((Tryz.prog.info? 91).bind (·.zero)).map (·.cells.toList) = some [.int .i64 0, .int .i64 0, .int .i64 0, .int .i64 0, .pointer none, .int .i64 0, .int .i64 0, .int .i64 0, .int .i64 0, .slice none 0 0, .int .i64 0, .int .i64 0, .int .i64 0, .int .i64 0, .int .i64 0, .int .i64 0, .int .i64 0, .int .i64 0, .int .i64 0, .int .i64 0, .int .i64 0, .int .i64 0, .int .i64 0, .int .i64 0, .int .i64 0, .int .i64 0, .slice none 0 0, .slice none 0 0, .bool false] := by kernel_rfl

set_option maxRecDepth 100000
set_option maxHeartbeats 4000000
theorem wNew_s (X : Cx) (id gr te vo bi bt : Int) (cf bd : List Int) (ls : List En) (pc pd pa : Option Addr) (cc cd ca nn : Nat) (w0 : World) (hbi : -1000000000000000 ≤ bi ∧ bi ≤ 1000000000000000) (hn : ls.length ≤ 100000) (m0 : MemOk X w0 [(5, .dat (.slice pc cf.length cc) (.ns .i64 cf)), (6, .dat (.slice pd bd.length cd) (.ns .u8 bd)), (7, .dat (.slice pa nn ca) (.l 4 (ls.map entD)))] w0) :
   Calls Tryz.prog 12 #[.int .i64 id, .int .i64 gr, .agg #[.int .i64 te, .int .i64 vo, .int .i64 bi, .int .i64 bt, .slice pc cf.length cc, .slice pd bd.length cd, .slice pa nn ca]] w0 fun e w' => ∃ (R : Nat) (p' : RP), e = .returned (.pointer (some ⟨R, 0, none⟩)) ∧ MemOk X w0 (rwM R (newS id gr te vo bi bt cf bd ls) (nilP p')) w' := by
 refine enter (fn := Tryz.f12) Tryz.func12 rfl Tryz.ntmps12 rfl (fun Az Hz => ?_)
 simp only [List.zipIdx_cons, List.zipIdx_nil, List.map_cons, List.map_nil, Nat.reduceAdd, Nat.zero_add] at Hz
 refine wp_seq_k (fun K0 hK0 => ?_)
 refine wp_region_lit ?_
 refine wpList_plain rfl (fun K hK => ?_)
 refine e_box Hz m0 20 (cs := [_, _, _, _, _, _, _]) rfl rfl rfl ?_
 clear Hz Az m0; intro g1 Az w2 Hz m2 hB2 hg2
 clear hB2 hg2
 refine hK _ _ ?_; clear hK K
 refine goCh Hz (.assign rfl .nil) ?_
 clear Hz Az; intro Az Hz
 refine wpList_nil ?_
 refine hK0 _ _ ?_; clear hK0; try clear K0
 refine wp_seq_k (fun K1 hK1 => ?_)
 have m4 : MemOk _ _ [(5, _), (6, _), (7, _), (20, _)] _ := m2.only [5, 6, 7, 20]; clear m2
 refine region_p 20 (B := [(20, _)]) (m4.to ⟨il, trivial⟩) m4 (by kernel_rfl) (fun w5 hP5 m5 => ?_); clear m4
 refine goR hP5 [0, 1, 2, 3, 4, 5, 6, 7, 8, 9, 10, 11, 13, 14, 15, 16, 17, 18] [7, 9, 11, 15, 18] 18 0 520191 Hz (m5.to ⟨il, trivial⟩) (.move rfl <| .p (fun _ _ h_ => y_max h_ rfl rfl rfl) <| .p (fun _ _ h_ => y_min h_ rfl rfl rfl) <| .move rfl <| .p (fun _ _ h_ => y_max h_ rfl rfl rfl) <| .p (fun _ _ h_ => y_min h_ rfl rfl rfl) <| .fieldAddr (off := 0) rfl Tryz.underlying32 rfl (s := 1) (by kernel_rfl) rfl <| .loadBR hh (i := 20) rfl rfl Tryz.underlying25 rfl sz25wnw (by simp) (by dsimp only [List.drop, List.take] <;> rfl) <| .fieldAddr (off := 2) rfl Tryz.underlying32 rfl (s := 3) (by kernel_rfl) rfl <| .loadBR hh (i := 20) rfl rfl Tryz.underlying29 rfl sz29wnw (by simp) (by dsimp only [List.drop, List.take] <;> rfl) <| .fieldAddr (off := 6) rfl Tryz.underlying32 rfl (s := 0) (by kernel_rfl) rfl <| .loadB1 hh (i := 20) rfl rfl rfl Tryz.underlying30 rfl <| .fieldAddr (off := 2) rfl Tryz.underlying32 rfl (s := 3) (by kernel_rfl) rfl <| .fieldAddr (off := 2) rfl Tryz.underlying29 rfl (s := 0) (by kernel_rfl) rfl <| .loadB1 hh (i := 20) rfl rfl rfl Tryz.underlying3 rfl <| .fieldAddr (off := 2) rfl Tryz.underlying32 rfl (s := 3) (by kernel_rfl) rfl <| .fieldAddr (off := 2) rfl Tryz.underlying29 rfl (s := 0) (by kernel_rfl) rfl <| .loadB1 hh (i := 20) rfl rfl rfl Tryz.underlying3 rfl <| .nil) ?_
 clear Hz Az; intro Az Hz
 refine stepE_only 12 rfl (by kernel_rfl) rfl (fun K hK => ?_)
 refine e_call Hz Tryz.func37 rfl rfl rfl rfl (rnew_fr _ bi bt cf bd ls _ _ _ _ _ _ _ _ (by omega) (by omega) (m5.into [(5, 5), (6, 6), (7, 7)] (by decide) rfl)) ?_
 rintro e w24 ⟨L24, pl24, cl24, rfl, hm24⟩
 have mx24 := m5.back hm24 [(2, 1), (3, 2), (4, 3), (5, 4)] (by decide); clear hm24 m5
 have m24 : MemOk _ _ [(2, _), (3, _), (4, _), (5, _), (20, _)] _ := mx24.only [2, 3, 4, 5, 20]; clear mx24
 refine ⟨_, rfl, ?_⟩; clear Hz Az; intro Az Hz
 refine hK _ _ (m24.to ⟨il, trivial⟩) ?_; clear hK K
 refine goA hP5 [19] 1 524287 1048575 Hz (m24.to ⟨il, trivial⟩) (.p (fun _ _ h_ => y_buildG h_ rfl zc91wnw ps91wnw rfl) <| .nil) ?_
 clear Hz Az; intro Az Hz
 refine stepE_end 20 rfl (by kernel_rfl) rfl (by rfl) (fun K hK => ?_)
 refine e_box Hz m24 21 (cs := [_, _, _, _, _, _, _, _, _, _, _, _, _, _, _, _, _, _, _, _, _, _, _, _, _, _, _, _, _]) rfl rfl rfl ?_
 clear Hz Az m24; intro g27 Az w28 Hz m28 hB28 hg28
 clear hB28 hg28
 refine hK _ _ ?_; clear hK K
 refine goB hP5 [21] 1 2097151 4194303 Hz (.assign rfl <| .nil) ?_
 clear Hz Az; intro Az Hz
 refine wpAnyE_done (by kernel_rfl) ?_ _
 refine hK1 _ _ ?_; clear hK1; try clear K1
 refine wp_ret ?_
 try dsimp only [Exit.then, Exit.inBlock]
 refine (ret1 (fn := Tryz.f12) Hz rfl rfl ?_)
 have mz := ((m28.dat 6 rfl (Rd.nilN _ _ .i64 none)).nilS 7 55 19).nilS 8 118 12
 exact ⟨_, ⟨_, _, _, _, none, none, none, _, _, _, 0, 0, 0⟩, rfl, mz.ren [(1, 21), (2, 2), (3, 3), (4, 4), (5, 5), (6, 6), (7, 7), (8, 8)] (by decide)⟩
end
section
theorem ps55ms2 : placesS Tryz.prog 55 = some [(0, 1), (1, 1), (2, 1), (3, 1), (4, 1), (5, 1), (6, 1), (7, 1), (8, 1), (9, 1), (10, 4), (14, 1), (15, 1), (16, 1), (17, 1), (18, 1)] := by kernel_rfl
theorem sz3ms2 : (Tryz.prog.info? 3).map (·.size) = some 1 := by kernel_rfl
theorem sz55ms2 : (Tryz.prog.info? 55).map (·.size) = some 19 := by kernel_rfl
theorem zc55ms2 : ((Tryz.prog.info? 55).bind (·.zero)).map (·.cells.toList) = some [.int .i64 0, .int .i64 0, .int .i64 0, .int .i64 0, .int .i64 0, .int .i64 0, .int .i64 0, .int .i64 0, .bool false, .slice none 0 0, .int .i64 0, .int .i64 0, .slice none 0 0, .slice none 0 0, .slice none 0 0, .int .i64 0, .int .i64 0, .int .i64 0, .int .i64 0] := by kernel_rfl
theorem ps55ms3 : placesS Tryz.prog 55 = some [(0, 1), (1, 1), (2, 1), (3, 1), (4, 1), (5, 1), (6, 1), (7, 1), (8, 1), (9, 1), (10, 4), (14, 1), (15, 1), (16, 1), (17, 1), (18, 1)] := by kernel_rfl
theorem sz3ms3 : (Tryz.prog.info? 3).map (·.size) = some 1 := by kernel_rfl
theorem sz4ms3 : (Tryz.prog.info? 4).map (·.size) = some 1 := by kernel_rfl
theorem sz55ms3 : (Tryz.prog.info? 55).map (·.size) = some 19 := by kernel_rfl
theorem zc55ms3 : ((Tryz.prog.info? 55).bind (·.zero)).map (·.cells.toList) = some [.int .i64 0, .int .i64 0, .int .i64 0, .int .i64 0, .int .i64 0, .int .i64 0, .int .i64 0, .int .i64 0, .bool false, .slice none 0 0, .int .i64 0, .int .i64 0, .slice none 0 0, .slice none 0 0, .slice none 0 0, .int .i64 0, .int .i64 0, .int .i64 0, .int .i64 0] := by kernel_rfl

set_option maxRecDepth 100000
set_option maxHeartbeats 4000000
theorem wMsg2_s (X : Cx) (R : Nat) (s : RS) (p : RP) (a1 b c d : Int) (w0 : World) (hk : ROk s) (hb : RLS s) (ha1 : 0 ≤ a1 ∧ a1 < 256) (hbb : 0 ≤ b ∧ b < 256) (hc : 0 ≤ c ∧ c < 256) (hd : 0 ≤ d ∧ d < 256) (htm : -1000000000000000 ≤ termS s (lastS s) ∧ termS s (lastS s) ≤ 1000000000000000) (m0 : MemOk X w0 (rwM R s p) w0) :
   Calls Tryz.prog 22 #[.pointer (some ⟨R, 0, none⟩), .int .u8 2, .int .u8 a1, .int .u8 b, .int .u8 c, .int .u8 d] w0 fun e w' => e = .returned (.agg #[.int .i64 3, .int .i64 s.x.gr, .int .i64 (a1 % 4), .int .i64 s.x.id, .int .i64 (max (s.x.te + b % 4 - 1) 0), .int .i64 (max (lastS s + c % 3 - 1) 0), .int .i64 (max (termS s (lastS s) + d % 3 - 1) 0), .int .i64 0, .bool false, .slice none 0 0, .int .i64 0, .int .i64 0, .slice none 0 0, .slice none 0 0, .slice none 0 0, .int .i64 0, .int .i64 0, .int .i64 0, .int .i64 0]) ∧ MemOk X w0 (rwM R s p) w' := by
 refine enter (fn := Tryz.f22) Tryz.func22 rfl Tryz.ntmps22 rfl (fun Az Hz => ?_)
 simp only [List.zipIdx_cons, List.zipIdx_nil, List.map_cons, List.map_nil, Nat.reduceAdd, Nat.zero_add] at Hz
 have hte := hk.te
 have hlb := lastS_bd s hb
 refine wp_seq_k (fun K0 hK0 => ?_)
 refine wp_region_lit ?_
 refine wpList_plain rfl (fun K hK => ?_)
 refine e_alloc Hz m0 40 zc55ms2 rfl ?_
 clear Hz Az m0; intro g1 Az w2 Hz m2 hB2 hg2
 clear hB2 hg2
 refine hK _ _ ?_; clear hK K
 refine wpList_nil ?_
 refine hK0 _ _ ?_; clear hK0; try clear K0
 refine wp_seq_k (fun K1 hK1 => ?_)
 refine wp_region_lit ?_
 refine goCh Hz (.move rfl <| .nilCheck rfl <| .fieldAddr (off := 4) rfl Tryz.underlying91 rfl (s := 0) (by kernel_rfl) rfl <| .loadB1 m2 (i := 1) rfl rfl rfl Tryz.underlying88 rfl <| .nil) ?_
 clear Hz Az; intro Az Hz
 refine wpList_plain rfl (fun K hK => ?_)
 refine e_call Hz Tryz.func57 rfl rfl rfl rfl (wlast_s R s p _ (rwM_is s p (m2.into [(1, 1), (2, 2), (3, 3), (4, 4), (5, 5), (6, 6), (7, 7), (8, 8)] (by decide) rfl)) hb) ?_
 rintro e w11 ⟨rfl, hb11⟩
 have m12 := m2.later hb11
 clear m2
 clear hb11
 refine ⟨_, rfl, ?_⟩; clear Hz Az; intro Az Hz
 refine hK _ _ ?_; clear hK K
 refine goCh Hz (.assign rfl .nil) ?_
 clear Hz Az; intro Az Hz
 refine wpList_nil ?_
 refine hK1 _ _ ?_; clear hK1; try clear K1
 refine wp_seq_k (fun K2 hK2 => ?_)
 have hC2 : ∀ (a : Act) (w : World), (∃ (Bo Bm : Nat), Has 222 [(0, .pointer (some ⟨R, 0, none⟩)), (1, .int .u8 2), (4, .int .u8 c), (5, .int .u8 d), (12, .pointer (some ⟨Bo, 0, none⟩)), (13, .int .i64 (lastS s)), (14, .pointer (some ⟨Bm, 0, none⟩))] a ∧ MemOk X w0 ((40, .box Bo 55 [.int .i64 0, .int .i64 0, .int .i64 0, .int .i64 0, .int .i64 0, .int .i64 0, .int .i64 0, .int .i64 0, .bool false, .slice none 0 0, .int .i64 0, .int .i64 0, .slice none 0 0, .slice none 0 0, .slice none 0 0, .int .i64 0, .int .i64 0, .int .i64 0, .int .i64 0]) :: (41, .box Bm 55 [.int .i64 0, .int .i64 s.x.gr, .int .i64 (a1 % 4), .int .i64 s.x.id, .int .i64 (max (s.x.te + b % 4 - 1) 0), .int .i64 0, .int .i64 0, .int .i64 0, .bool false, .slice none 0 0, .int .i64 0, .int .i64 0, .slice none 0 0, .slice none 0 0, .slice none 0 0, .int .i64 0, .int .i64 0, .int .i64 0, .int .i64 0]) :: rwM R s p) w) → K2 a w := by
   clear Hz m12
   rintro Az w15 ⟨Bo, Bm, Hz, m15⟩
   refine hK2 _ _ ?_; clear hK2; try clear K2
   refine wp_seq_k (fun K3 hK3 => ?_)
   refine regS Hz (.move rfl <| .rem rfl rfl (r := 2) (by omega) (by decide) <| .nil) ?_
   clear Hz Az; intro Az Hz
   refine wp_block ?_
   refine regS Hz (.eql rfl rfl <| .assign rfl <| .nil) ?_
   clear Hz Az; intro Az Hz
   refine bool_cases Hz (t := 67) rfl ?_ ?_
   · intro hb _; exact absurd hb (by decide)
   clear Hz; intro _ Hz
   refine wp_cond_false (Hz.ev (x := .tmp 67) rfl) ?_
   refine regS Hz (.eql rfl rfl <| .assign rfl <| .nil) ?_
   clear Hz Az; intro Az Hz
   refine bool_cases Hz (t := 91) rfl ?_ ?_
   · intro hb _; exact absurd hb (by decide)
   clear Hz; intro _ Hz
   refine wp_cond_false (Hz.ev (x := .tmp 91) rfl) ?_
   replace Hz : Has 222 [(0, _), (4, _), (5, _), (12, _), (13, _), (14, _), (45, _)] Az := Hz.only [0, 4, 5, 12, 13, 14, 45]
   refine regS Hz (.eql rfl rfl <| .assign rfl <| .nil) ?_
   clear Hz Az; intro Az Hz
   refine bool_cases Hz (t := 98) rfl ?_ ?_
   rotate_left
   · intro hb _; exact absurd hb (by decide)
   clear Hz; intro _ Hz
   refine wp_cond_true (Hz.ev (x := .tmp 98) rfl) ?_
   refine wp_region_lit ?_
   refine goCh Hz (.move rfl <| .move rfl <| .rem rfl rfl (r := c % 3) (by omega) (Int.tmod_eq_emod_of_nonneg (by omega)) <| .conv rfl Tryz.underlying5 Tryz.underlying3 (r := c % 3) (IntWalk.i64_in _ (by omega)) <| .add rfl rfl (r := lastS s + c % 3) (IntWalk.i64_in _ (by omega)) <| .sub rfl rfl (r := lastS s + c % 3 - 1) (IntWalk.i64_in _ (by omega)) <| .c rfl (fun _ h_ => y_max h_ rfl rfl rfl) <| .move rfl <| .nilCheck rfl <| .fieldAddr (off := 4) rfl Tryz.underlying91 rfl (s := 0) (by kernel_rfl) rfl <| .loadB1 m15 (i := 1) rfl rfl rfl Tryz.underlying88 rfl <| .move rfl <| .nil) ?_
   clear Hz Az; intro Az Hz
   refine wpList_plain rfl (fun K hK => ?_)
   refine e_call Hz Tryz.func58 rfl rfl rfl rfl (wterm_s R s p _ (rwM_is s p (m15.into [(1, 1), (2, 2), (3, 3), (4, 4), (5, 5), (6, 6), (7, 7), (8, 8)] (by decide) rfl)) hb (lastS s)) ?_
   rintro e w40 ⟨rfl, hb40⟩
   have m41 := m15.later hb40
   clear m15
   clear hb40
   refine ⟨_, rfl, ?_⟩; clear Hz Az; intro Az Hz
   refine hK _ _ ?_; clear hK K
   refine goCh Hz (.move rfl <| .rem rfl rfl (r := d % 3) (by omega) (Int.tmod_eq_emod_of_nonneg (by omega)) <| .conv rfl Tryz.underlying5 Tryz.underlying3 (r := d % 3) (IntWalk.i64_in _ (by omega)) <| .add rfl rfl (r := termS s (lastS s) + d % 3) (IntWalk.i64_in _ (by omega)) <| .sub rfl rfl (r := termS s (lastS s) + d % 3 - 1) (IntWalk.i64_in _ (by omega)) <| .c rfl (fun _ h_ => y_max h_ rfl rfl rfl) <| .fieldAddr (off := 0) rfl Tryz.underlying55 rfl (s := 0) (by kernel_rfl) rfl <| .nil) ?_
   clear Hz Az; intro Az Hz
   refine wpList_plain rfl (fun K hK => ?_)
   refine e_store1 Hz m41 41 rfl rfl rfl rfl rfl sz3ms2 (by dsimp only [List.set] <;> rfl) ?_
   clear m41; intro w50 m50 hB50
   clear hB50
   refine hK _ _ ?_; clear hK K
   refine goCh Hz (.fieldAddr (off := 5) rfl Tryz.underlying55 rfl (s := 0) (by kernel_rfl) rfl .nil) ?_
   clear Hz Az; intro Az Hz
   refine wpList_plain rfl (fun K hK => ?_)
   refine e_store1 Hz m50 41 rfl rfl rfl rfl rfl sz3ms2 (by dsimp only [List.set] <;> rfl) ?_
   clear m50; intro w52 m52 hB52
   clear hB52
   refine hK _ _ ?_; clear hK K
   refine goCh Hz (.fieldAddr (off := 6) rfl Tryz.underlying55 rfl (s := 0) (by kernel_rfl) rfl .nil) ?_
   clear Hz Az; intro Az Hz
   refine wpList_plain rfl (fun K hK => ?_)
   refine e_store1 Hz m52 41 rfl rfl rfl rfl rfl sz3ms2 (by dsimp only [List.set] <;> rfl) ?_
   clear m52; intro w54 m54 hB54
   clear hB54
   refine hK _ _ ?_; clear hK K
   refine wpList_nil ?_
   refine hK3 _ _ ?_; clear hK3; try clear K3
   replace Hz : Has 222 [(12, _), (14, _)] Az := Hz.only [12, 14]
   refine wp_seq_k (fun K4 hK4 => ?_)
   refine wp_region_lit ?_
   refine goCh Hz (.loadBR m54 (i := 41) rfl rfl Tryz.underlying55 rfl sz55ms2 (by simp) (by dsimp only [List.drop, List.take] <;> rfl) .nil) ?_
   clear Hz Az; intro Az Hz
   refine wpList_plain rfl (fun K hK => ?_)
   refine e_storeW Hz m54 40 rfl rfl rfl rfl rfl sz55ms2 ?_
   clear m54; intro w58 m58 hB58
   clear hB58
   refine hK _ _ ?_; clear hK K
   refine wpList_nil ?_
   refine hK4 _ _ ?_; clear hK4; try clear K4
   refine wp_ret ?_
   try dsimp only [Exit.then, Exit.inBlock]
   refine (retC (fn := Tryz.f22) Hz m58 (i := 40) rfl rfl rfl Tryz.underlying55 rfl sz55ms2 ?_)
   exact ⟨rfl, m58.only [1, 2, 3, 4, 5, 6, 7, 8]⟩
 have m59 : MemOk _ _ [(1, _), (2, _), (3, _), (4, _), (5, _), (6, _), (7, _), (8, _), (40, _)] _ := m12.only [1, 2, 3, 4, 5, 6, 7, 8, 40]; clear m12
 refine region_p 24 (B := [(1, _), (2, _), (3, _), (4, _), (5, _), (6, _), (7, _), (8, _), (40, _)]) (m59.to ⟨il, il, il, il, il, il, il, il, il, trivial⟩) m59 (by kernel_rfl) (fun w60 hP60 m60 => ?_); clear m59
 refine goR hP60 [0, 1, 2, 3, 4, 5, 6, 7, 8, 9, 10, 11, 12, 13, 14, 15, 16, 17, 18, 19, 20, 21, 22] [3, 10, 15] 23 0 8388607 Hz (m60.to ⟨il, il, il, il, il, il, il, il, il, trivial⟩) (.move rfl <| .nilCheck rfl <| .fieldAddr (off := 1) rfl Tryz.underlying91 rfl (s := 0) (by kernel_rfl) rfl <| .loadB1 hh (i := 1) rfl rfl rfl Tryz.underlying3 rfl <| .move rfl <| .rem rfl rfl (r := a1 % 4) (by omega) (Int.tmod_eq_emod_of_nonneg (by omega)) <| .conv rfl Tryz.underlying5 Tryz.underlying3 (r := a1 % 4) (IntWalk.i64_in _ (by omega)) <| .move rfl <| .nilCheck rfl <| .fieldAddr (off := 0) rfl Tryz.underlying91 rfl (s := 0) (by kernel_rfl) rfl <| .loadB1 hh (i := 1) rfl rfl rfl Tryz.underlying3 rfl <| .move rfl <| .nilCheck rfl <| .fieldAddr (off := 2) rfl Tryz.underlying91 rfl (s := 1) (by kernel_rfl) rfl <| .fieldAddr (off := 2) rfl Tryz.underlying25 rfl (s := 0) (by kernel_rfl) rfl <| .loadB1 hh (i := 1) rfl rfl rfl Tryz.underlying3 rfl <| .move rfl <| .rem rfl rfl (r := b % 4) (by omega) (Int.tmod_eq_emod_of_nonneg (by omega)) <| .conv rfl Tryz.underlying5 Tryz.underlying3 (r := b % 4) (IntWalk.i64_in _ (by omega)) <| .add rfl rfl (r := s.x.te + b % 4) (IntWalk.i64_in _ (by omega)) <| .sub rfl rfl (r := s.x.te + b % 4 - 1) (IntWalk.i64_in _ (by omega)) <| .p (fun _ _ h_ => y_max h_ rfl rfl rfl) <| .p (fun _ _ h_ => y_buildG h_ rfl zc55ms2 ps55ms2 rfl) <| .nil) ?_
 clear Hz Az; intro Az Hz
 refine stepE_only 23 rfl (by kernel_rfl) rfl (fun K hK => ?_)
 refine e_alloc Hz m60 41 zc55ms2 rfl ?_
 clear Hz Az m60; intro g84 Az w85 Hz m85 hB85 hg85
 clear hB85 hg85
 refine hK _ _ (m85.to ⟨il, il, il, il, il, il, il, il, il, trivial⟩) ?_; clear hK K
 refine stepE_end 24 rfl (by kernel_rfl) rfl (by rfl) (fun K hK => ?_)
 refine e_storeW Hz m85 41 rfl rfl rfl rfl rfl sz55ms2 ?_
 clear m85; intro w86 m86 hB86
 clear hB86
 refine hK _ _ ?_; clear hK K
 refine wpAnyE_done (by kernel_rfl) ?_ _
 show K2 _ _
 exact hC2 _ _ ⟨_, _, Hz.only [0, 1, 4, 5, 12, 13, 14], m86.ren [(40, 40), (41, 41), (1, 1), (2, 2), (3, 3), (4, 4), (5, 5), (6, 6), (7, 7), (8, 8)] (by decide)⟩
theorem wMsg3_s (X : Cx) (R : Nat) (s : RS) (p : RP) (a1 b c d : Int) (w0 : World) (hk : ROk s) (hb : RLS s) (ha1 : 0 ≤ a1 ∧ a1 < 256) (hbb : 0 ≤ b ∧ b < 256) (hc : 0 ≤ c ∧ c < 256) (hd : 0 ≤ d ∧ d < 256) (htm : -1000000000000000 ≤ termS s (lastS s) ∧ termS s (lastS s) ≤ 1000000000000000) (m0 : MemOk X w0 (rwM R s p) w0) :
   Calls Tryz.prog 22 #[.pointer (some ⟨R, 0, none⟩), .int .u8 3, .int .u8 a1, .int .u8 b, .int .u8 c, .int .u8 d] w0 fun e w' => e = .returned (.agg #[.int .i64 4, .int .i64 s.x.gr, .int .i64 (a1 % 4), .int .i64 s.x.id, .int .i64 (max (s.x.te + b % 4 - 1) 0), .int .i64 0, .int .i64 0, .int .i64 0, .bool (decide (0 < c % 4)), .slice none 0 0, .int .i64 0, .int .i64 0, .slice none 0 0, .slice none 0 0, .slice none 0 0, .int .i64 0, .int .i64 0, .int .i64 0, .int .i64 0]) ∧ MemOk X w0 (rwM R s p) w' := by
 refine enter (fn := Tryz.f22) Tryz.func22 rfl Tryz.ntmps22 rfl (fun Az Hz => ?_)
 simp only [List.zipIdx_cons, List.zipIdx_nil, List.map_cons, List.map_nil, Nat.reduceAdd, Nat.zero_add] at Hz
 have hte := hk.te
 have hlb := lastS_bd s hb
 refine wp_seq_k (fun K0 hK0 => ?_)
 refine wp_region_lit ?_
 refine wpList_plain rfl (fun K hK => ?_)
 refine e_alloc Hz m0 40 zc55ms3 rfl ?_
 clear Hz Az m0; intro g1 Az w2 Hz m2 hB2 hg2
 clear hB2 hg2
 refine hK _ _ ?_; clear hK K
 refine wpList_nil ?_
 refine hK0 _ _ ?_; clear hK0; try clear K0
 refine wp_seq_k (fun K1 hK1 => ?_)
 refine wp_region_lit ?_
 refine goCh Hz (.move rfl <| .nilCheck rfl <| .fieldAddr (off := 4) rfl Tryz.underlying91 rfl (s := 0) (by kernel_rfl) rfl <| .loadB1 m2 (i := 1) rfl rfl rfl Tryz.underlying88 rfl <| .nil) ?_
 clear Hz Az; intro Az Hz
 refine wpList_plain rfl (fun K hK => ?_)
 refine e_call Hz Tryz.func57 rfl rfl rfl rfl (wlast_s R s p _ (rwM_is s p (m2.into [(1, 1), (2, 2), (3, 3), (4, 4), (5, 5), (6, 6), (7, 7), (8, 8)] (by decide) rfl)) hb) ?_
 rintro e w11 ⟨rfl, hb11⟩
 have m12 := m2.later hb11
 clear m2
 clear hb11
 refine ⟨_, rfl, ?_⟩; clear Hz Az; intro Az Hz
 refine hK _ _ ?_; clear hK K
 refine goCh Hz (.assign rfl .nil) ?_
 clear Hz Az; intro Az Hz
 refine wpList_nil ?_
 refine hK1 _ _ ?_; clear hK1; try clear K1
 refine wp_seq_k (fun K2 hK2 => ?_)
 have hC2 : ∀ (a : Act) (w : World), (∃ (Bo Bm : Nat), Has 222 [(0, .pointer (some ⟨R, 0, none⟩)), (1, .int .u8 3), (4, .int .u8 c), (5, .int .u8 d), (12, .pointer (some ⟨Bo, 0, none⟩)), (13, .int .i64 (lastS s)), (14, .pointer (some ⟨Bm, 0, none⟩))] a ∧ MemOk X w0 ((40, .box Bo 55 [.int .i64 0, .int .i64 0, .int .i64 0, .int .i64 0, .int .i64 0, .int .i64 0, .int .i64 0, .int .i64 0, .bool false, .slice none 0 0, .int .i64 0, .int .i64 0, .slice none 0 0, .slice none 0 0, .slice none 0 0, .int .i64 0, .int .i64 0, .int .i64 0, .int .i64 0]) :: (41, .box Bm 55 [.int .i64 0, .int .i64 s.x.gr, .int .i64 (a1 % 4), .int .i64 s.x.id, .int .i64 (max (s.x.te + b % 4 - 1) 0), .int .i64 0, .int .i64 0, .int .i64 0, .bool false, .slice none 0 0, .int .i64 0, .int .i64 0, .slice none 0 0, .slice none 0 0, .slice none 0 0, .int .i64 0, .int .i64 0, .int .i64 0, .int .i64 0]) :: rwM R s p) w) → K2 a w := by
   clear Hz m12
   rintro Az w15 ⟨Bo, Bm, Hz, m15⟩
   refine hK2 _ _ ?_; clear hK2; try clear K2
   refine wp_seq_k (fun K3 hK3 => ?_)
   refine regS Hz (.move rfl <| .rem rfl rfl (r := 3) (by omega) (by decide) <| .nil) ?_
   clear Hz Az; intro Az Hz
   refine wp_block ?_
   refine regS Hz (.eql rfl rfl <| .assign rfl <| .nil) ?_
   clear Hz Az; intro Az Hz
   refine bool_cases Hz (t := 67) rfl ?_ ?_
   · intro hb _; exact absurd hb (by decide)
   clear Hz; intro _ Hz
   refine wp_cond_false (Hz.ev (x := .tmp 67) rfl) ?_
   refine regS Hz (.eql rfl rfl <| .assign rfl <| .nil) ?_
   clear Hz Az; intro Az Hz
   refine bool_cases Hz (t := 91) rfl ?_ ?_
   · intro hb _; exact absurd hb (by decide)
   clear Hz; intro _ Hz
   refine wp_cond_false (Hz.ev (x := .tmp 91) rfl) ?_
   replace Hz : Has 222 [(0, _), (4, _), (5, _), (12, _), (13, _), (14, _), (45, _)] Az := Hz.only [0, 4, 5, 12, 13, 14, 45]
   refine regS Hz (.eql rfl rfl <| .assign rfl <| .nil) ?_
   clear Hz Az; intro Az Hz
   refine bool_cases Hz (t := 98) rfl ?_ ?_
   · intro hb _; exact absurd hb (by decide)
   clear Hz; intro _ Hz
   refine wp_cond_false (Hz.ev (x := .tmp 98) rfl) ?_
   refine regS Hz (.eql rfl rfl <| .assign rfl <| .nil) ?_
   clear Hz Az; intro Az Hz
   refine bool_cases Hz (t := 122) rfl ?_ ?_
   rotate_left
   · intro hb _; exact absurd hb (by decide)
   clear Hz; intro _ Hz
   refine wp_cond_true (Hz.ev (x := .tmp 122) rfl) ?_
   refine wp_region_lit ?_
   refine goCh Hz (.move rfl <| .rem rfl rfl (r := c % 4) (by omega) (Int.tmod_eq_emod_of_nonneg (by omega)) <| .gtr rfl rfl <| .fieldAddr (off := 0) rfl Tryz.underlying55 rfl (s := 0) (by kernel_rfl) rfl <| .nil) ?_
   clear Hz Az; intro Az Hz
   refine wpList_plain rfl (fun K hK => ?_)
   refine e_store1 Hz m15 41 rfl rfl rfl rfl rfl sz3ms3 (by dsimp only [List.set] <;> rfl) ?_
   clear m15; intro w35 m35 hB35
   clear hB35
   refine hK _ _ ?_; clear hK K
   refine goCh Hz (.fieldAddr (off := 8) rfl Tryz.underlying55 rfl (s := 0) (by kernel_rfl) rfl .nil) ?_
   clear Hz Az; intro Az Hz
   refine wpList_plain rfl (fun K hK => ?_)
   refine e_store1 Hz m35 41 rfl rfl rfl rfl rfl sz4ms3 (by dsimp only [List.set] <;> rfl) ?_
   clear m35; intro w37 m37 hB37
   clear hB37
   refine hK _ _ ?_; clear hK K
   refine wpList_nil ?_
   refine hK3 _ _ ?_; clear hK3; try clear K3
   replace Hz : Has 222 [(12, _), (14, _)] Az := Hz.only [12, 14]
   refine wp_seq_k (fun K4 hK4 => ?_)
   refine wp_region_lit ?_
   refine goCh Hz (.loadBR m37 (i := 41) rfl rfl Tryz.underlying55 rfl sz55ms3 (by simp) (by dsimp only [List.drop, List.take] <;> rfl) .nil) ?_
   clear Hz Az; intro Az Hz
   refine wpList_plain rfl (fun K hK => ?_)
   refine e_storeW Hz m37 40 rfl rfl rfl rfl rfl sz55ms3 ?_
   clear m37; intro w41 m41 hB41
   clear hB41
   refine hK _ _ ?_; clear hK K
   refine wpList_nil ?_
   refine hK4 _ _ ?_; clear hK4; try clear K4
   refine wp_ret ?_
   try dsimp only [Exit.then, Exit.inBlock]
   refine (retC (fn := Tryz.f22) Hz m41 (i := 40) rfl rfl rfl Tryz.underlying55 rfl sz55ms3 ?_)
   exact ⟨rfl, m41.only [1, 2, 3, 4, 5, 6, 7, 8]⟩
 have m42 : MemOk _ _ [(1, _), (2, _), (3, _), (4, _), (5, _), (6, _), (7, _), (8, _), (40, _)] _ := m12.only [1, 2, 3, 4, 5, 6, 7, 8, 40]; clear m12
 refine region_p 24 (B := [(1, _), (2, _), (3, _), (4, _), (5, _), (6, _), (7, _), (8, _), (40, _)]) (m42.to ⟨il, il, il, il, il, il, il, il, il, trivial⟩) m42 (by kernel_rfl) (fun w43 hP43 m43 => ?_); clear m42
 refine goR hP43 [0, 1, 2, 3, 4, 5, 6, 7, 8, 9, 10, 11, 12, 13, 14, 15, 16, 17, 18, 19, 20, 21, 22] [3, 10, 15] 23 0 8388607 Hz (m43.to ⟨il, il, il, il, il, il, il, il, il, trivial⟩) (.move rfl <| .nilCheck rfl <| .fieldAddr (off := 1) rfl Tryz.underlying91 rfl (s := 0) (by kernel_rfl) rfl <| .loadB1 hh (i := 1) rfl rfl rfl Tryz.underlying3 rfl <| .move rfl <| .rem rfl rfl (r := a1 % 4) (by omega) (Int.tmod_eq_emod_of_nonneg (by omega)) <| .conv rfl Tryz.underlying5 Tryz.underlying3 (r := a1 % 4) (IntWalk.i64_in _ (by omega)) <| .move rfl <| .nilCheck rfl <| .fieldAddr (off := 0) rfl Tryz.underlying91 rfl (s := 0) (by kernel_rfl) rfl <| .loadB1 hh (i := 1) rfl rfl rfl Tryz.underlying3 rfl <| .move rfl <| .nilCheck rfl <| .fieldAddr (off := 2) rfl Tryz.underlying91 rfl (s := 1) (by kernel_rfl) rfl <| .fieldAddr (off := 2) rfl Tryz.underlying25 rfl (s := 0) (by kernel_rfl) rfl <| .loadB1 hh (i := 1) rfl rfl rfl Tryz.underlying3 rfl <| .move rfl <| .rem rfl rfl (r := b % 4) (by omega) (Int.tmod_eq_emod_of_nonneg (by omega)) <| .conv rfl Tryz.underlying5 Tryz.underlying3 (r := b % 4) (IntWalk.i64_in _ (by omega)) <| .add rfl rfl (r := s.x.te + b % 4) (IntWalk.i64_in _ (by omega)) <| .sub rfl rfl (r := s.x.te + b % 4 - 1) (IntWalk.i64_in _ (by omega)) <| .p (fun _ _ h_ => y_max h_ rfl rfl rfl) <| .p (fun _ _ h_ => y_buildG h_ rfl zc55ms3 ps55ms3 rfl) <| .nil) ?_
 clear Hz Az; intro Az Hz
 refine stepE_only 23 rfl (by kernel_rfl) rfl (fun K hK => ?_)
 refine e_alloc Hz m43 41 zc55ms3 rfl ?_
 clear Hz Az m43; intro g67 Az w68 Hz m68 hB68 hg68
 clear hB68 hg68
 refine hK _ _ (m68.to ⟨il, il, il, il, il, il, il, il, il, trivial⟩) ?_; clear hK K
 refine stepE_end 24 rfl (by kernel_rfl) rfl (by rfl) (fun K hK => ?_)
 refine e_storeW Hz m68 41 rfl rfl rfl rfl rfl sz55ms3 ?_
 clear m68; intro w69 m69 hB69
 clear hB69
 refine hK _ _ ?_; clear hK K
 refine wpAnyE_done (by kernel_rfl) ?_ _
 show K2 _ _
 exact hC2 _ _ ⟨_, _, Hz.only [0, 1, 4, 5, 12, 13, 14], m69.ren [(40, 40), (41, 41), (1, 1), (2, 2), (3, 3), (4, 4), (5, 5), (6, 6), (7, 7), (8, 8)] (by decide)⟩
end
end Go.Proofs.YtndnnlbdnjndiaaGreat.K
