/- raft: onAppendOk (of Ok), handler, ofTerm. -/
import Derived.Test.YtndnnlbdnjndiaaGreatRafG
namespace Go.Proofs.YtndnnlbdnjndiaaGreat.K
open Go.ChangeShapes Go.WideShapes Go.ChangeAt Go.RowKit
set_option linter.unusedVariables false
set_option linter.unusedSimpArgs false

theorem sz3rao : (Tryz.prog.info? 3).map (·.size) = some 1 := by kernel_rfl








def ackS (s : RS) (f ix : Int) : RS := withX s (setN (setM s.x f (max (mx s.x f) ix)) f ((max (mx s.x f) ix) + 1))
theorem setN_co (x : RV) (n v : Int) : (setN x n v).co = x.co := by
 unfold setN; (repeat' split) <;> rfl
theorem setM_co (x : RV) (n v : Int) : (setM x n v).co = x.co := by
 unfold setM; (repeat' split) <;> rfl
theorem nx_set (x : RV) (n v : Int) (h : 0 ≤ n ∧ n ≤ 6) : nx (setN x n v) n = v := by
 rcases (show n = 0 ∨ n = 1 ∨ n = 2 ∨ n = 3 ∨ n = 4 ∨ n = 5 ∨ n = 6 by omega) with rfl | rfl | rfl | rfl | rfl | rfl | rfl <;> rfl
theorem ackS_co (s : RS) (f ix : Int) : (ackS s f ix).x.co = s.x.co := by show (setN _ _ _).co = _; rw [setN_co, setM_co]
theorem ackS_la (s : RS) (f ix : Int) : lastS (ackS s f ix) = lastS s := rfl
theorem nx_co (x : RV) (c n : Int) : nx { x with co := c } n = nx x n := rfl
theorem ackS_nx (s : RS) {f ix : Int} (hb : RLS s) (hf : 0 ≤ f ∧ f ≤ 6) (hix : -1000000000000000 ≤ ix ∧ ix ≤ 1000000000000000) (hmx : s.bi ≤ mx s.x f ∧ mx s.x f ≤ 1000000000000000) : s.bi < nx (countS (ackS s f ix)).x f ∧ nx (countS (ackS s f ix)).x f ≤ 1000000000000000000 := by
 have e : nx (countS (ackS s f ix)).x f = (max (mx s.x f) ix) + 1 := (nx_co _ _ _).trans (nx_set _ _ _ hf)
 rw [e]; omega
def appOkS (s : RS) (f ix : Int) : RS := if mx s.x f < ix then (if nx (countS (ackS s f ix)).x f ≤ lastS (countS (ackS s f ix)) then wordS (countS (ackS s f ix)) f else (countS (ackS s f ix))) else (ackS s f ix)
theorem appOk_no (s : RS) (f ix : Int) (h : ¬ mx s.x f < ix) : appOkS s f ix = (ackS s f ix) := by unfold appOkS; exact if_neg h
theorem appOk_word (s : RS) (f ix : Int) (h : mx s.x f < ix) (h2 : nx (countS (ackS s f ix)).x f ≤ lastS (countS (ackS s f ix))) : appOkS s f ix = wordS (countS (ackS s f ix)) f := by unfold appOkS; rw [if_pos h, if_pos h2]
theorem appOk_more (s : RS) (f ix : Int) (h : mx s.x f < ix) (h2 : lastS (countS (ackS s f ix)) < nx (countS (ackS s f ix)).x f) : appOkS s f ix = (countS (ackS s f ix)) := by unfold appOkS; rw [if_pos h, if_neg (by omega)]
set_option maxRecDepth 100000
set_option maxHeartbeats 4000000
theorem ronAppendOk_s (X : Cx) (R : Nat) (s : RS) (p : RP) (k gm f t te ix lt co : Int) (w0 : World) (hk : ROk s) (hro : s.x.ro = 3) (hoth : (othS s).contains f = true) (hf : 0 ≤ f ∧ f ≤ 6) (hix : -1000000000000000 ≤ ix ∧ ix ≤ 1000000000000000) (hmx : s.bi ≤ mx s.x f ∧ mx s.x f ≤ 1000000000000000) (m0 : MemOk X w0 (rfM R s p) w0) :
   Calls Tryz.prog 102 #[.pointer (some ⟨R, 0, none⟩), .agg #[.int .i64 k, .int .i64 gm, .int .i64 f, .int .i64 t, .int .i64 te, .int .i64 ix, .int .i64 lt, .int .i64 co, .bool true, .slice none 0 0, .int .i64 0, .int .i64 0, .slice none 0 0, .slice none 0 0, .slice none 0 0, .int .i64 0, .int .i64 0, .int .i64 0, .int .i64 0]] w0 fun e w' => ∃ p', e = .returned (.tuple #[]) ∧ MemOk X w0 (rfM R (appOkS s f ix) p') w' := by
 refine enter (fn := Tryz.f102) Tryz.func102 rfl Tryz.ntmps102 rfl (fun Az Hz => ?_)
 simp only [List.zipIdx_cons, List.zipIdx_nil, List.map_cons, List.map_nil, Nat.reduceAdd, Nat.zero_add] at Hz
 refine wp_seq_k (fun K0 hK0 => ?_)
 refine wp_region_lit ?_
 refine wpList_plain rfl (fun K hK => ?_)
 refine e_box Hz m0 50 (cs := [_, _, _, _, _, _, _, _, _, _, _, _, _, _, _, _, _, _, _]) rfl rfl rfl ?_
 clear Hz Az m0; intro g1 Az w2 Hz m2 hB2 hg2
 clear hB2 hg2
 refine hK _ _ ?_; clear hK K
 refine wpList_nil ?_
 refine hK0 _ _ ?_; clear hK0; try clear K0
 refine regS Hz (.fieldAddr (off := 2) rfl Tryz.underlying55 rfl (s := 0) (by kernel_rfl) rfl <| .loadB1 m2 (i := 50) rfl rfl rfl Tryz.underlying3 rfl <| .assign rfl <| .nil) ?_
 clear Hz Az; intro Az Hz
 refine wp_seq_k (fun K1 hK1 => ?_)
 refine wp_seq_k (fun K2 hK2 => ?_)
 refine wp_region_lit ?_
 refine goCh Hz (.move rfl <| .nilCheck rfl <| .fieldAddr (off := 20) rfl Tryz.underlying86 rfl (s := 0) (by kernel_rfl) rfl <| .loadB1 m2 (i := 1) rfl rfl rfl Tryz.underlying3 rfl <| .neq rfl rfl <| .move rfl <| .nil) ?_
 clear Hz Az; intro Az Hz
 refine bool_cases Hz (t := 13) rfl ?_ ?_
 · intro hb _; exact absurd hb (by simp; omega)
 clear Hz; intro _ Hz
 refine goCh Hz (.moveZ rfl <| .nilCheckZ rfl <| .fieldAddrZ (off := 0) rfl Tryz.underlying86 rfl (s := 4) (by kernel_rfl) rfl <| .nil) ?_
 clear Hz Az; intro Az Hz
 refine st_ge Hz rfl rfl rfl rfl (fun K hK => ?_)
 refine e_call Hz Tryz.func85 rfl rfl rfl rfl (rothers_s R s p _ (rfM_is s p (m2.into [(1, 1), (2, 2), (3, 3), (4, 4), (5, 5), (6, 6), (7, 7), (8, 8)] (by decide) rfl)) hk.l) ?_
 rintro e w22 ⟨p22, c22, rfl, hd22, hb22⟩
 have m23 := m2.callF 51 rfl hb22 hd22
 clear m2
 clear hb22 hd22
 refine ⟨_, rfl, ?_⟩; clear Hz Az; intro Az Hz
 refine hK _ _ ?_; clear hK K
 refine goCh Hz (.moveZ rfl .nil) ?_
 clear Hz Az; intro Az Hz
 refine st_ge Hz rfl rfl rfl rfl (fun K hK => ?_)
 refine e_call Hz Tryz.func48 rfl rfl rfl rfl (chas_b _ (othS s) f _ (m23.nums (i := 51) rfl) (Nat.le_trans (othS_len s) (by decide))) ?_
 rintro e w26 ⟨rfl, hb26⟩
 have m27 := m23.later hb26
 clear m23
 clear hb26
 refine ⟨_, rfl, ?_⟩; clear Hz Az; intro Az Hz
 refine hK _ _ ?_; clear hK K
 refine goCh Hz (.notZ rfl <| .pickF rfl rfl <| .nil) ?_
 clear Hz Az; intro Az Hz
 refine wpList_nil ?_
 refine hK2 _ _ ?_; clear hK2; try clear K2
 refine bool_cases Hz (t := 21) rfl ?_ ?_
 · intro hb _; exact absurd hb (by simp only [hoth]; decide)
 clear Hz; intro _ Hz
 refine wp_cond_false (Hz.ev (x := .tmp 21) rfl) ?_
 refine wp_skip ?_
 refine hK1 _ _ ?_; clear hK1; try clear K1
 refine wp_seq_k (fun K3 hK3 => ?_)
 replace Hz : Has 110 [(0, _), (3, _), (4, _)] Az := Hz.only [0, 3, 4]
 refine regS Hz (.fieldAddr (off := 8) rfl Tryz.underlying55 rfl (s := 0) (by kernel_rfl) rfl <| .loadB1 m27 (i := 50) rfl rfl rfl Tryz.underlying4 rfl <| .not rfl <| .nil) ?_
 clear Hz Az; intro Az Hz
 refine wp_cond_false (Hz.ev (x := .tmp 24) rfl) ?_
 refine wp_skip ?_
 refine hK3 _ _ ?_; clear hK3; try clear K3
 refine wp_seq_k (fun K4 hK4 => ?_)
 have hC4 : ∀ (a : Act) (w : World), (∃ (B9 : Nat), Has 110 [(0, .pointer (some ⟨R, 0, none⟩)), (3, .pointer (some ⟨B9, 0, none⟩)), (4, .int .i64 f), (5, .bool (decide (mx s.x f < ix)))] a ∧ MemOk X w0 ((50, .box B9 55 [.int .i64 k, .int .i64 gm, .int .i64 f, .int .i64 t, .int .i64 te, .int .i64 ix, .int .i64 lt, .int .i64 co, .bool true, .slice none 0 0, .int .i64 0, .int .i64 0, .slice none 0 0, .slice none 0 0, .slice none 0 0, .int .i64 0, .int .i64 0, .int .i64 0, .int .i64 0]) :: rfM R s p) w) → K4 a w := by
   clear Hz m27
   rintro Az w36 ⟨B9, Hz, m36⟩
   refine hK4 _ _ ?_; clear hK4; try clear K4
   refine wp_seq_k (fun K5 hK5 => ?_)
   have hC5 : ∀ (a : Act) (w : World), (∃ (B9 : Nat), Has 110 [(0, .pointer (some ⟨R, 0, none⟩)), (3, .pointer (some ⟨B9, 0, none⟩)), (4, .int .i64 f), (5, .bool (decide (mx s.x f < ix)))] a ∧ MemOk X w0 ((50, .box B9 55 [.int .i64 k, .int .i64 gm, .int .i64 f, .int .i64 t, .int .i64 te, .int .i64 ix, .int .i64 lt, .int .i64 co, .bool true, .slice none 0 0, .int .i64 0, .int .i64 0, .slice none 0 0, .slice none 0 0, .slice none 0 0, .int .i64 0, .int .i64 0, .int .i64 0, .int .i64 0]) :: rfM R (withX s (setM s.x f (max (mx s.x f) ix))) p) w) → K5 a w := by
     clear Hz m36
     rintro Az w37 ⟨B9, Hz, m37⟩
     refine hK5 _ _ ?_; clear hK5; try clear K5
     refine wp_seq_k (fun K6 hK6 => ?_)
     have hC6 : ∀ (a : Act) (w : World), (∃ (B9 : Nat), Has 110 [(0, .pointer (some ⟨R, 0, none⟩)), (3, .pointer (some ⟨B9, 0, none⟩)), (4, .int .i64 f), (5, .bool (decide (mx s.x f < ix)))] a ∧ MemOk X w0 ((50, .box B9 55 [.int .i64 k, .int .i64 gm, .int .i64 f, .int .i64 t, .int .i64 te, .int .i64 ix, .int .i64 lt, .int .i64 co, .bool true, .slice none 0 0, .int .i64 0, .int .i64 0, .slice none 0 0, .slice none 0 0, .slice none 0 0, .int .i64 0, .int .i64 0, .int .i64 0, .int .i64 0]) :: rfM R (ackS s f ix) p) w) → K6 a w := by
       clear Hz m37
       rintro Az w38 ⟨B9, Hz, m38⟩
       refine hK6 _ _ ?_; clear hK6; try clear K6
       refine wp_seq_k (fun K7 hK7 => ?_)
       refine regS Hz (.move rfl <| .not rfl <| .nil) ?_
       clear Hz Az; intro Az Hz
       refine bool_cases Hz (t := 88) rfl ?_ ?_
       ·
        clear Hz; intro hb41 Hz
        try simp only [Q1x, Q2x, Q3x, Q4x, Q5x, Q6x, Q7x, Q8x, Q9x, Q0x, Qax, Qbx] at hb41
        refine wp_cond_true (Hz.ev (x := .tmp 88) rfl) ?_
        refine wp_ret ?_
        try dsimp only [Exit.then, Exit.inBlock]
        refine (ret0r (fn := Tryz.f102) Hz rfl ?_)
        rw [appOk_no s f ix (by simpa using hb41)]
        exact ⟨p, rfl, m38.only [1, 2, 3, 4, 5, 6, 7, 8]⟩
       ·
        clear Hz; intro hb41 Hz
        try simp only [Q1x, Q2x, Q3x, Q4x, Q5x, Q6x, Q7x, Q8x, Q9x, Q0x, Qax, Qbx] at hb41
        have hgt : mx s.x f < ix := by simpa using hb41
        refine wp_cond_false (Hz.ev (x := .tmp 88) rfl) ?_
        refine wp_skip ?_
        refine hK7 _ _ ?_; clear hK7; try clear K7
        refine wp_seq_k (fun K8 hK8 => ?_)
        refine wp_region_lit ?_
        refine goCh Hz (.move rfl .nil) ?_
        clear Hz Az; intro Az Hz
        refine wpList_plain rfl (fun K hK => ?_)
        refine e_call Hz Tryz.func116 rfl rfl rfl rfl (rcount_s _ R (ackS s f ix) p _ hk.l (by rw [ackS_co]; exact hk.co) (by rw [ackS_co, ackS_la]; have := hk.ld; omega) (m38.into [(1, 1), (2, 2), (3, 3), (4, 4), (5, 5), (6, 6), (7, 7), (8, 8)] (by decide) rfl)) ?_
        rintro e w44 ⟨p1, rfl, hm44⟩
        have mx44 := m38.back hm44 [(1, 1), (2, 2), (3, 3), (4, 4), (5, 5), (6, 6), (7, 7), (8, 8)] (by decide); clear hm44 m38
        have m44 : MemOk _ _ [(1, _), (2, _), (3, _), (4, _), (5, _), (6, _), (7, _), (8, _), (50, _)] _ := mx44.only [1, 2, 3, 4, 5, 6, 7, 8, 50]; clear mx44
        refine ⟨_, rfl, ?_⟩; clear Hz Az; intro Az Hz
        refine hK _ _ ?_; clear hK K
        refine wpList_nil ?_
        refine hK8 _ _ ?_; clear hK8; try clear K8
        refine wp_seq_k (fun K9 hK9 => ?_)
        have hC9 : ∀ (a : Act) (w : World), (∃ (B9 : Nat), Has 110 [(0, .pointer (some ⟨R, 0, none⟩)), (3, .pointer (some ⟨B9, 0, none⟩)), (4, .int .i64 f), (106, .bool (decide (nx (countS (ackS s f ix)).x f ≤ lastS (countS (ackS s f ix)))))] a ∧ MemOk X w0 ((50, .box B9 55 [.int .i64 k, .int .i64 gm, .int .i64 f, .int .i64 t, .int .i64 te, .int .i64 ix, .int .i64 lt, .int .i64 co, .bool true, .slice none 0 0, .int .i64 0, .int .i64 0, .slice none 0 0, .slice none 0 0, .slice none 0 0, .int .i64 0, .int .i64 0, .int .i64 0, .int .i64 0]) :: rfM R (countS (ackS s f ix)) p1) w) → K9 a w := by
          clear Hz m44
          rintro Az w46 ⟨B9, Hz, m46⟩
          refine hK9 _ _ ?_; clear hK9; try clear K9
          refine bool_cases Hz (t := 106) rfl ?_ ?_
          ·
           clear Hz; intro hb47 Hz
           try simp only [Q1x, Q2x, Q3x, Q4x, Q5x, Q6x, Q7x, Q8x, Q9x, Q0x, Qax, Qbx] at hb47
           refine wp_cond_true (Hz.ev (x := .tmp 106) rfl) ?_
           refine wp_region_lit ?_
           refine goCh Hz (.move rfl <| .move rfl <| .nil) ?_
           clear Hz Az; intro Az Hz
           refine wpList_plain rfl (fun K hK => ?_)
           refine e_call Hz Tryz.func86 rfl rfl rfl rfl (rword_s _ R (countS (ackS s f ix)) p1 f _ hk.l (by have := hk.ms; show s.ms.length ≤ _; omega) hf (ackS_nx s hk.l hf hix hmx).1 (ackS_nx s hk.l hf hix hmx).2 (m46.into [(1, 1), (2, 2), (3, 3), (4, 4), (5, 5), (6, 6), (7, 7), (8, 8)] (by decide) rfl)) ?_
           rintro e w50 ⟨p2, rfl, hm50⟩
           have mx50 := m46.back hm50 [(1, 1), (2, 2), (3, 3), (4, 4), (5, 5), (6, 6), (7, 7), (8, 8)] (by decide); clear hm50 m46
           have m50 : MemOk _ _ [(1, _), (2, _), (3, _), (4, _), (5, _), (6, _), (7, _), (8, _), (50, _)] _ := mx50.only [1, 2, 3, 4, 5, 6, 7, 8, 50]; clear mx50
           refine ⟨_, rfl, ?_⟩; clear Hz Az; intro Az Hz
           refine hK _ _ ?_; clear hK K
           refine wpList_nil ?_
           try dsimp only [Exit.then]
           try refine out_here ?_
           refine (ret0 (fn := Tryz.f102) Hz rfl ?_)
           rw [appOk_word s f ix hgt hb47]
           exact ⟨p2, rfl, m50.only [1, 2, 3, 4, 5, 6, 7, 8]⟩
          ·
           clear Hz; intro hb47 Hz
           try simp only [Q1x, Q2x, Q3x, Q4x, Q5x, Q6x, Q7x, Q8x, Q9x, Q0x, Qax, Qbx] at hb47
           refine wp_cond_false (Hz.ev (x := .tmp 106) rfl) ?_
           refine wp_skip ?_
           try dsimp only [Exit.then]
           try refine out_here ?_
           refine (ret0 (fn := Tryz.f102) Hz rfl ?_)
           rw [appOk_more s f ix hgt hb47]
           exact ⟨p1, rfl, m46.only [1, 2, 3, 4, 5, 6, 7, 8]⟩
        rcases (show f = 0 ∨ f = 1 ∨ f = 2 ∨ f = 3 ∨ f = 4 ∨ f = 5 ∨ f = 6 by omega) with rfl | rfl | rfl | rfl | rfl | rfl | rfl
        ·
         have m52 : MemOk _ _ [(1, _), (2, _), (3, _), (4, _), (5, _), (6, _), (7, _), (8, _), (50, _)] _ := m44.only [1, 2, 3, 4, 5, 6, 7, 8, 50]; clear m44
         refine region_p 16 (B := [(1, _), (2, _), (3, _), (4, _), (5, _), (6, _), (7, _), (8, _), (50, _)]) (m52.to ⟨il, il, il, il, il, il, il, il, il, trivial⟩) m52 (by kernel_rfl) (fun w53 hP53 m53 => ?_); clear m52
         refine goR hP53 [0, 1, 2, 3, 4, 5, 6, 7, 8, 9, 10, 11, 12, 13] [6, 11] 14 0 16383 Hz (m53.to ⟨il, il, il, il, il, il, il, il, il, trivial⟩) (.move rfl <| .move rfl <| .nilCheck rfl <| .fieldAddr (off := 5) rfl Tryz.underlying86 rfl (s := 14) (by kernel_rfl) rfl <| .fieldAddr (off := 6) rfl Tryz.underlying84 rfl (s := 6) (by kernel_rfl) rfl <| .p (fun _ _ h_ => y_idxA h_ rfl rfl Tryz.underlying82 sz3rao 0 rfl (by decide) (off := 6) rfl) <| .loadB1 hh (i := 1) rfl rfl rfl Tryz.underlying3 rfl <| .move rfl <| .nilCheck rfl <| .fieldAddr (off := 0) rfl Tryz.underlying86 rfl (s := 4) (by kernel_rfl) rfl <| .fieldAddr (off := 4) rfl Tryz.underlying81 rfl (s := 0) (by kernel_rfl) rfl <| .loadB1 hh (i := 1) rfl rfl rfl Tryz.underlying79 rfl <| .nilCheck rfl <| .fieldAddr (off := 0) rfl Tryz.underlying123 rfl (s := 4) (by kernel_rfl) rfl <| .nil) ?_
         clear Hz Az; intro Az Hz
         refine stepE_only 14 rfl (by kernel_rfl) rfl (fun K hK => ?_)
         refine e_call Hz Tryz.func75 rfl rfl rfl rfl (rlast_s R (countS (ackS s 0 ix)) p1 _ (rfM_is (countS (ackS s 0 ix)) p1 (m53.into [(1, 1), (2, 2), (3, 3), (4, 4), (5, 5), (6, 6), (7, 7), (8, 8)] (by decide) rfl)) hk.l) ?_
         rintro e w68 ⟨rfl, hb68⟩
         have m69 := m53.later hb68
         clear m53
         clear hb68
         refine ⟨_, rfl, ?_⟩; clear Hz Az; intro Az Hz
         refine hK _ _ (m69.to ⟨il, il, il, il, il, il, il, il, il, trivial⟩) ?_; clear hK K
         refine goA hP53 [15] 1 32767 65535 Hz (m69.to ⟨il, il, il, il, il, il, il, il, il, trivial⟩) (.leq rfl rfl <| .nil) ?_
         clear Hz Az; intro Az Hz
         refine wpAnyE_done (by kernel_rfl) ?_ _
         show K9 _ _
         exact hC9 _ _ ⟨_, Hz.only [0, 3, 4, 106], m69.ren [(50, 50), (1, 1), (2, 2), (3, 3), (4, 4), (5, 5), (6, 6), (7, 7), (8, 8)] (by decide)⟩
        ·
         have m72 : MemOk _ _ [(1, _), (2, _), (3, _), (4, _), (5, _), (6, _), (7, _), (8, _), (50, _)] _ := m44.only [1, 2, 3, 4, 5, 6, 7, 8, 50]; clear m44
         refine region_p 16 (B := [(1, _), (2, _), (3, _), (4, _), (5, _), (6, _), (7, _), (8, _), (50, _)]) (m72.to ⟨il, il, il, il, il, il, il, il, il, trivial⟩) m72 (by kernel_rfl) (fun w73 hP73 m73 => ?_); clear m72
         refine goR hP73 [0, 1, 2, 3, 4, 5, 6, 7, 8, 9, 10, 11, 12, 13] [6, 11] 14 0 16383 Hz (m73.to ⟨il, il, il, il, il, il, il, il, il, trivial⟩) (.move rfl <| .move rfl <| .nilCheck rfl <| .fieldAddr (off := 5) rfl Tryz.underlying86 rfl (s := 14) (by kernel_rfl) rfl <| .fieldAddr (off := 6) rfl Tryz.underlying84 rfl (s := 6) (by kernel_rfl) rfl <| .p (fun _ _ h_ => y_idxA h_ rfl rfl Tryz.underlying82 sz3rao 1 rfl (by decide) (off := 7) rfl) <| .loadB1 hh (i := 1) rfl rfl rfl Tryz.underlying3 rfl <| .move rfl <| .nilCheck rfl <| .fieldAddr (off := 0) rfl Tryz.underlying86 rfl (s := 4) (by kernel_rfl) rfl <| .fieldAddr (off := 4) rfl Tryz.underlying81 rfl (s := 0) (by kernel_rfl) rfl <| .loadB1 hh (i := 1) rfl rfl rfl Tryz.underlying79 rfl <| .nilCheck rfl <| .fieldAddr (off := 0) rfl Tryz.underlying123 rfl (s := 4) (by kernel_rfl) rfl <| .nil) ?_
         clear Hz Az; intro Az Hz
         refine stepE_only 14 rfl (by kernel_rfl) rfl (fun K hK => ?_)
         refine e_call Hz Tryz.func75 rfl rfl rfl rfl (rlast_s R (countS (ackS s 1 ix)) p1 _ (rfM_is (countS (ackS s 1 ix)) p1 (m73.into [(1, 1), (2, 2), (3, 3), (4, 4), (5, 5), (6, 6), (7, 7), (8, 8)] (by decide) rfl)) hk.l) ?_
         rintro e w88 ⟨rfl, hb88⟩
         have m89 := m73.later hb88
         clear m73
         clear hb88
         refine ⟨_, rfl, ?_⟩; clear Hz Az; intro Az Hz
         refine hK _ _ (m89.to ⟨il, il, il, il, il, il, il, il, il, trivial⟩) ?_; clear hK K
         refine goA hP73 [15] 1 32767 65535 Hz (m89.to ⟨il, il, il, il, il, il, il, il, il, trivial⟩) (.leq rfl rfl <| .nil) ?_
         clear Hz Az; intro Az Hz
         refine wpAnyE_done (by kernel_rfl) ?_ _
         show K9 _ _
         exact hC9 _ _ ⟨_, Hz.only [0, 3, 4, 106], m89.ren [(50, 50), (1, 1), (2, 2), (3, 3), (4, 4), (5, 5), (6, 6), (7, 7), (8, 8)] (by decide)⟩
        ·
         have m92 : MemOk _ _ [(1, _), (2, _), (3, _), (4, _), (5, _), (6, _), (7, _), (8, _), (50, _)] _ := m44.only [1, 2, 3, 4, 5, 6, 7, 8, 50]; clear m44
         refine region_p 16 (B := [(1, _), (2, _), (3, _), (4, _), (5, _), (6, _), (7, _), (8, _), (50, _)]) (m92.to ⟨il, il, il, il, il, il, il, il, il, trivial⟩) m92 (by kernel_rfl) (fun w93 hP93 m93 => ?_); clear m92
         refine goR hP93 [0, 1, 2, 3, 4, 5, 6, 7, 8, 9, 10, 11, 12, 13] [6, 11] 14 0 16383 Hz (m93.to ⟨il, il, il, il, il, il, il, il, il, trivial⟩) (.move rfl <| .move rfl <| .nilCheck rfl <| .fieldAddr (off := 5) rfl Tryz.underlying86 rfl (s := 14) (by kernel_rfl) rfl <| .fieldAddr (off := 6) rfl Tryz.underlying84 rfl (s := 6) (by kernel_rfl) rfl <| .p (fun _ _ h_ => y_idxA h_ rfl rfl Tryz.underlying82 sz3rao 2 rfl (by decide) (off := 8) rfl) <| .loadB1 hh (i := 1) rfl rfl rfl Tryz.underlying3 rfl <| .move rfl <| .nilCheck rfl <| .fieldAddr (off := 0) rfl Tryz.underlying86 rfl (s := 4) (by kernel_rfl) rfl <| .fieldAddr (off := 4) rfl Tryz.underlying81 rfl (s := 0) (by kernel_rfl) rfl <| .loadB1 hh (i := 1) rfl rfl rfl Tryz.underlying79 rfl <| .nilCheck rfl <| .fieldAddr (off := 0) rfl Tryz.underlying123 rfl (s := 4) (by kernel_rfl) rfl <| .nil) ?_
         clear Hz Az; intro Az Hz
         refine stepE_only 14 rfl (by kernel_rfl) rfl (fun K hK => ?_)
         refine e_call Hz Tryz.func75 rfl rfl rfl rfl (rlast_s R (countS (ackS s 2 ix)) p1 _ (rfM_is (countS (ackS s 2 ix)) p1 (m93.into [(1, 1), (2, 2), (3, 3), (4, 4), (5, 5), (6, 6), (7, 7), (8, 8)] (by decide) rfl)) hk.l) ?_
         rintro e w108 ⟨rfl, hb108⟩
         have m109 := m93.later hb108
         clear m93
         clear hb108
         refine ⟨_, rfl, ?_⟩; clear Hz Az; intro Az Hz
         refine hK _ _ (m109.to ⟨il, il, il, il, il, il, il, il, il, trivial⟩) ?_; clear hK K
         refine goA hP93 [15] 1 32767 65535 Hz (m109.to ⟨il, il, il, il, il, il, il, il, il, trivial⟩) (.leq rfl rfl <| .nil) ?_
         clear Hz Az; intro Az Hz
         refine wpAnyE_done (by kernel_rfl) ?_ _
         show K9 _ _
         exact hC9 _ _ ⟨_, Hz.only [0, 3, 4, 106], m109.ren [(50, 50), (1, 1), (2, 2), (3, 3), (4, 4), (5, 5), (6, 6), (7, 7), (8, 8)] (by decide)⟩
        ·
         have m112 : MemOk _ _ [(1, _), (2, _), (3, _), (4, _), (5, _), (6, _), (7, _), (8, _), (50, _)] _ := m44.only [1, 2, 3, 4, 5, 6, 7, 8, 50]; clear m44
         refine region_p 16 (B := [(1, _), (2, _), (3, _), (4, _), (5, _), (6, _), (7, _), (8, _), (50, _)]) (m112.to ⟨il, il, il, il, il, il, il, il, il, trivial⟩) m112 (by kernel_rfl) (fun w113 hP113 m113 => ?_); clear m112
         refine goR hP113 [0, 1, 2, 3, 4, 5, 6, 7, 8, 9, 10, 11, 12, 13] [6, 11] 14 0 16383 Hz (m113.to ⟨il, il, il, il, il, il, il, il, il, trivial⟩) (.move rfl <| .move rfl <| .nilCheck rfl <| .fieldAddr (off := 5) rfl Tryz.underlying86 rfl (s := 14) (by kernel_rfl) rfl <| .fieldAddr (off := 6) rfl Tryz.underlying84 rfl (s := 6) (by kernel_rfl) rfl <| .p (fun _ _ h_ => y_idxA h_ rfl rfl Tryz.underlying82 sz3rao 3 rfl (by decide) (off := 9) rfl) <| .loadB1 hh (i := 1) rfl rfl rfl Tryz.underlying3 rfl <| .move rfl <| .nilCheck rfl <| .fieldAddr (off := 0) rfl Tryz.underlying86 rfl (s := 4) (by kernel_rfl) rfl <| .fieldAddr (off := 4) rfl Tryz.underlying81 rfl (s := 0) (by kernel_rfl) rfl <| .loadB1 hh (i := 1) rfl rfl rfl Tryz.underlying79 rfl <| .nilCheck rfl <| .fieldAddr (off := 0) rfl Tryz.underlying123 rfl (s := 4) (by kernel_rfl) rfl <| .nil) ?_
         clear Hz Az; intro Az Hz
         refine stepE_only 14 rfl (by kernel_rfl) rfl (fun K hK => ?_)
         refine e_call Hz Tryz.func75 rfl rfl rfl rfl (rlast_s R (countS (ackS s 3 ix)) p1 _ (rfM_is (countS (ackS s 3 ix)) p1 (m113.into [(1, 1), (2, 2), (3, 3), (4, 4), (5, 5), (6, 6), (7, 7), (8, 8)] (by decide) rfl)) hk.l) ?_
         rintro e w128 ⟨rfl, hb128⟩
         have m129 := m113.later hb128
         clear m113
         clear hb128
         refine ⟨_, rfl, ?_⟩; clear Hz Az; intro Az Hz
         refine hK _ _ (m129.to ⟨il, il, il, il, il, il, il, il, il, trivial⟩) ?_; clear hK K
         refine goA hP113 [15] 1 32767 65535 Hz (m129.to ⟨il, il, il, il, il, il, il, il, il, trivial⟩) (.leq rfl rfl <| .nil) ?_
         clear Hz Az; intro Az Hz
         refine wpAnyE_done (by kernel_rfl) ?_ _
         show K9 _ _
         exact hC9 _ _ ⟨_, Hz.only [0, 3, 4, 106], m129.ren [(50, 50), (1, 1), (2, 2), (3, 3), (4, 4), (5, 5), (6, 6), (7, 7), (8, 8)] (by decide)⟩
        ·
         have m132 : MemOk _ _ [(1, _), (2, _), (3, _), (4, _), (5, _), (6, _), (7, _), (8, _), (50, _)] _ := m44.only [1, 2, 3, 4, 5, 6, 7, 8, 50]; clear m44
         refine region_p 16 (B := [(1, _), (2, _), (3, _), (4, _), (5, _), (6, _), (7, _), (8, _), (50, _)]) (m132.to ⟨il, il, il, il, il, il, il, il, il, trivial⟩) m132 (by kernel_rfl) (fun w133 hP133 m133 => ?_); clear m132
         refine goR hP133 [0, 1, 2, 3, 4, 5, 6, 7, 8, 9, 10, 11, 12, 13] [6, 11] 14 0 16383 Hz (m133.to ⟨il, il, il, il, il, il, il, il, il, trivial⟩) (.move rfl <| .move rfl <| .nilCheck rfl <| .fieldAddr (off := 5) rfl Tryz.underlying86 rfl (s := 14) (by kernel_rfl) rfl <| .fieldAddr (off := 6) rfl Tryz.underlying84 rfl (s := 6) (by kernel_rfl) rfl <| .p (fun _ _ h_ => y_idxA h_ rfl rfl Tryz.underlying82 sz3rao 4 rfl (by decide) (off := 10) rfl) <| .loadB1 hh (i := 1) rfl rfl rfl Tryz.underlying3 rfl <| .move rfl <| .nilCheck rfl <| .fieldAddr (off := 0) rfl Tryz.underlying86 rfl (s := 4) (by kernel_rfl) rfl <| .fieldAddr (off := 4) rfl Tryz.underlying81 rfl (s := 0) (by kernel_rfl) rfl <| .loadB1 hh (i := 1) rfl rfl rfl Tryz.underlying79 rfl <| .nilCheck rfl <| .fieldAddr (off := 0) rfl Tryz.underlying123 rfl (s := 4) (by kernel_rfl) rfl <| .nil) ?_
         clear Hz Az; intro Az Hz
         refine stepE_only 14 rfl (by kernel_rfl) rfl (fun K hK => ?_)
         refine e_call Hz Tryz.func75 rfl rfl rfl rfl (rlast_s R (countS (ackS s 4 ix)) p1 _ (rfM_is (countS (ackS s 4 ix)) p1 (m133.into [(1, 1), (2, 2), (3, 3), (4, 4), (5, 5), (6, 6), (7, 7), (8, 8)] (by decide) rfl)) hk.l) ?_
         rintro e w148 ⟨rfl, hb148⟩
         have m149 := m133.later hb148
         clear m133
         clear hb148
         refine ⟨_, rfl, ?_⟩; clear Hz Az; intro Az Hz
         refine hK _ _ (m149.to ⟨il, il, il, il, il, il, il, il, il, trivial⟩) ?_; clear hK K
         refine goA hP133 [15] 1 32767 65535 Hz (m149.to ⟨il, il, il, il, il, il, il, il, il, trivial⟩) (.leq rfl rfl <| .nil) ?_
         clear Hz Az; intro Az Hz
         refine wpAnyE_done (by kernel_rfl) ?_ _
         show K9 _ _
         exact hC9 _ _ ⟨_, Hz.only [0, 3, 4, 106], m149.ren [(50, 50), (1, 1), (2, 2), (3, 3), (4, 4), (5, 5), (6, 6), (7, 7), (8, 8)] (by decide)⟩
        ·
         have m152 : MemOk _ _ [(1, _), (2, _), (3, _), (4, _), (5, _), (6, _), (7, _), (8, _), (50, _)] _ := m44.only [1, 2, 3, 4, 5, 6, 7, 8, 50]; clear m44
         refine region_p 16 (B := [(1, _), (2, _), (3, _), (4, _), (5, _), (6, _), (7, _), (8, _), (50, _)]) (m152.to ⟨il, il, il, il, il, il, il, il, il, trivial⟩) m152 (by kernel_rfl) (fun w153 hP153 m153 => ?_); clear m152
         refine goR hP153 [0, 1, 2, 3, 4, 5, 6, 7, 8, 9, 10, 11, 12, 13] [6, 11] 14 0 16383 Hz (m153.to ⟨il, il, il, il, il, il, il, il, il, trivial⟩) (.move rfl <| .move rfl <| .nilCheck rfl <| .fieldAddr (off := 5) rfl Tryz.underlying86 rfl (s := 14) (by kernel_rfl) rfl <| .fieldAddr (off := 6) rfl Tryz.underlying84 rfl (s := 6) (by kernel_rfl) rfl <| .p (fun _ _ h_ => y_idxA h_ rfl rfl Tryz.underlying82 sz3rao 5 rfl (by decide) (off := 11) rfl) <| .loadB1 hh (i := 1) rfl rfl rfl Tryz.underlying3 rfl <| .move rfl <| .nilCheck rfl <| .fieldAddr (off := 0) rfl Tryz.underlying86 rfl (s := 4) (by kernel_rfl) rfl <| .fieldAddr (off := 4) rfl Tryz.underlying81 rfl (s := 0) (by kernel_rfl) rfl <| .loadB1 hh (i := 1) rfl rfl rfl Tryz.underlying79 rfl <| .nilCheck rfl <| .fieldAddr (off := 0) rfl Tryz.underlying123 rfl (s := 4) (by kernel_rfl) rfl <| .nil) ?_
         clear Hz Az; intro Az Hz
         refine stepE_only 14 rfl (by kernel_rfl) rfl (fun K hK => ?_)
         refine e_call Hz Tryz.func75 rfl rfl rfl rfl (rlast_s R (countS (ackS s 5 ix)) p1 _ (rfM_is (countS (ackS s 5 ix)) p1 (m153.into [(1, 1), (2, 2), (3, 3), (4, 4), (5, 5), (6, 6), (7, 7), (8, 8)] (by decide) rfl)) hk.l) ?_
         rintro e w168 ⟨rfl, hb168⟩
         have m169 := m153.later hb168
         clear m153
         clear hb168
         refine ⟨_, rfl, ?_⟩; clear Hz Az; intro Az Hz
         refine hK _ _ (m169.to ⟨il, il, il, il, il, il, il, il, il, trivial⟩) ?_; clear hK K
         refine goA hP153 [15] 1 32767 65535 Hz (m169.to ⟨il, il, il, il, il, il, il, il, il, trivial⟩) (.leq rfl rfl <| .nil) ?_
         clear Hz Az; intro Az Hz
         refine wpAnyE_done (by kernel_rfl) ?_ _
         show K9 _ _
         exact hC9 _ _ ⟨_, Hz.only [0, 3, 4, 106], m169.ren [(50, 50), (1, 1), (2, 2), (3, 3), (4, 4), (5, 5), (6, 6), (7, 7), (8, 8)] (by decide)⟩
        ·
         have m172 : MemOk _ _ [(1, _), (2, _), (3, _), (4, _), (5, _), (6, _), (7, _), (8, _), (50, _)] _ := m44.only [1, 2, 3, 4, 5, 6, 7, 8, 50]; clear m44
         refine region_p 16 (B := [(1, _), (2, _), (3, _), (4, _), (5, _), (6, _), (7, _), (8, _), (50, _)]) (m172.to ⟨il, il, il, il, il, il, il, il, il, trivial⟩) m172 (by kernel_rfl) (fun w173 hP173 m173 => ?_); clear m172
         refine goR hP173 [0, 1, 2, 3, 4, 5, 6, 7, 8, 9, 10, 11, 12, 13] [6, 11] 14 0 16383 Hz (m173.to ⟨il, il, il, il, il, il, il, il, il, trivial⟩) (.move rfl <| .move rfl <| .nilCheck rfl <| .fieldAddr (off := 5) rfl Tryz.underlying86 rfl (s := 14) (by kernel_rfl) rfl <| .fieldAddr (off := 6) rfl Tryz.underlying84 rfl (s := 6) (by kernel_rfl) rfl <| .p (fun _ _ h_ => y_idxA h_ rfl rfl Tryz.underlying82 sz3rao 6 rfl (by decide) (off := 12) rfl) <| .loadB1 hh (i := 1) rfl rfl rfl Tryz.underlying3 rfl <| .move rfl <| .nilCheck rfl <| .fieldAddr (off := 0) rfl Tryz.underlying86 rfl (s := 4) (by kernel_rfl) rfl <| .fieldAddr (off := 4) rfl Tryz.underlying81 rfl (s := 0) (by kernel_rfl) rfl <| .loadB1 hh (i := 1) rfl rfl rfl Tryz.underlying79 rfl <| .nilCheck rfl <| .fieldAddr (off := 0) rfl Tryz.underlying123 rfl (s := 4) (by kernel_rfl) rfl <| .nil) ?_
         clear Hz Az; intro Az Hz
         refine stepE_only 14 rfl (by kernel_rfl) rfl (fun K hK => ?_)
         refine e_call Hz Tryz.func75 rfl rfl rfl rfl (rlast_s R (countS (ackS s 6 ix)) p1 _ (rfM_is (countS (ackS s 6 ix)) p1 (m173.into [(1, 1), (2, 2), (3, 3), (4, 4), (5, 5), (6, 6), (7, 7), (8, 8)] (by decide) rfl)) hk.l) ?_
         rintro e w188 ⟨rfl, hb188⟩
         have m189 := m173.later hb188
         clear m173
         clear hb188
         refine ⟨_, rfl, ?_⟩; clear Hz Az; intro Az Hz
         refine hK _ _ (m189.to ⟨il, il, il, il, il, il, il, il, il, trivial⟩) ?_; clear hK K
         refine goA hP173 [15] 1 32767 65535 Hz (m189.to ⟨il, il, il, il, il, il, il, il, il, trivial⟩) (.leq rfl rfl <| .nil) ?_
         clear Hz Az; intro Az Hz
         refine wpAnyE_done (by kernel_rfl) ?_ _
         show K9 _ _
         exact hC9 _ _ ⟨_, Hz.only [0, 3, 4, 106], m189.ren [(50, 50), (1, 1), (2, 2), (3, 3), (4, 4), (5, 5), (6, 6), (7, 7), (8, 8)] (by decide)⟩
     rcases (show f = 0 ∨ f = 1 ∨ f = 2 ∨ f = 3 ∨ f = 4 ∨ f = 5 ∨ f = 6 by omega) with rfl | rfl | rfl | rfl | rfl | rfl | rfl
     ·
      have m192 : MemOk _ _ [(1, _), (2, _), (3, _), (4, _), (5, _), (6, _), (7, _), (8, _), (50, _)] _ := m37.only [1, 2, 3, 4, 5, 6, 7, 8, 50]; clear m37
      refine region_p 14 (B := [(1, _), (2, _), (3, _), (4, _), (5, _), (6, _), (7, _), (8, _), (50, _)]) (m192.to ⟨il, il, il, il, il, il, il, il, il, trivial⟩) m192 (by kernel_rfl) (fun w193 hP193 m193 => ?_); clear m192
      refine goR hP193 [0, 1, 2, 3, 4, 5, 6, 7, 8, 9, 10, 11, 12, 13] [8] 14 0 16383 Hz (m193.to ⟨il, il, il, il, il, il, il, il, il, trivial⟩) (.move rfl <| .move rfl <| .move rfl <| .move rfl <| .nilCheck rfl <| .fieldAddr (off := 5) rfl Tryz.underlying86 rfl (s := 14) (by kernel_rfl) rfl <| .fieldAddr (off := 13) rfl Tryz.underlying84 rfl (s := 6) (by kernel_rfl) rfl <| .p (fun _ _ h_ => y_idxA h_ rfl rfl Tryz.underlying82 sz3rao 0 rfl (by decide) (off := 13) rfl) <| .loadB1 hh (i := 1) rfl rfl rfl Tryz.underlying3 rfl <| .add rfl rfl (r := (max (mx s.x 0) ix) + 1) (IntWalk.i64_in ((max (mx s.x 0) ix) + 1) (by omega)) <| .nilCheck rfl <| .fieldAddr (off := 5) rfl Tryz.underlying86 rfl (s := 14) (by kernel_rfl) rfl <| .fieldAddr (off := 6) rfl Tryz.underlying84 rfl (s := 6) (by kernel_rfl) rfl <| .p (fun _ _ h_ => y_idxA h_ rfl rfl Tryz.underlying82 sz3rao 0 rfl (by decide) (off := 6) rfl) <| .nil) ?_
      clear Hz Az; intro Az Hz
      refine stepE_end 14 rfl (by kernel_rfl) rfl (by rfl) (fun K hK => ?_)
      refine e_store1 Hz m193 1 rfl rfl rfl rfl rfl sz3rao (by dsimp only [List.set] <;> rfl) ?_
      clear m193; intro w208 m208 hB208
      clear hB208
      refine hK _ _ ?_; clear hK K
      refine wpAnyE_done (by kernel_rfl) ?_ _
      show K6 _ _
      exact hC6 _ _ ⟨_, Hz.only [0, 3, 4, 5], m208.ren [(50, 50), (1, 1), (2, 2), (3, 3), (4, 4), (5, 5), (6, 6), (7, 7), (8, 8)] (by decide)⟩
     ·
      have m209 : MemOk _ _ [(1, _), (2, _), (3, _), (4, _), (5, _), (6, _), (7, _), (8, _), (50, _)] _ := m37.only [1, 2, 3, 4, 5, 6, 7, 8, 50]; clear m37
      refine region_p 14 (B := [(1, _), (2, _), (3, _), (4, _), (5, _), (6, _), (7, _), (8, _), (50, _)]) (m209.to ⟨il, il, il, il, il, il, il, il, il, trivial⟩) m209 (by kernel_rfl) (fun w210 hP210 m210 => ?_); clear m209
      refine goR hP210 [0, 1, 2, 3, 4, 5, 6, 7, 8, 9, 10, 11, 12, 13] [8] 14 0 16383 Hz (m210.to ⟨il, il, il, il, il, il, il, il, il, trivial⟩) (.move rfl <| .move rfl <| .move rfl <| .move rfl <| .nilCheck rfl <| .fieldAddr (off := 5) rfl Tryz.underlying86 rfl (s := 14) (by kernel_rfl) rfl <| .fieldAddr (off := 13) rfl Tryz.underlying84 rfl (s := 6) (by kernel_rfl) rfl <| .p (fun _ _ h_ => y_idxA h_ rfl rfl Tryz.underlying82 sz3rao 1 rfl (by decide) (off := 14) rfl) <| .loadB1 hh (i := 1) rfl rfl rfl Tryz.underlying3 rfl <| .add rfl rfl (r := (max (mx s.x 1) ix) + 1) (IntWalk.i64_in ((max (mx s.x 1) ix) + 1) (by omega)) <| .nilCheck rfl <| .fieldAddr (off := 5) rfl Tryz.underlying86 rfl (s := 14) (by kernel_rfl) rfl <| .fieldAddr (off := 6) rfl Tryz.underlying84 rfl (s := 6) (by kernel_rfl) rfl <| .p (fun _ _ h_ => y_idxA h_ rfl rfl Tryz.underlying82 sz3rao 1 rfl (by decide) (off := 7) rfl) <| .nil) ?_
      clear Hz Az; intro Az Hz
      refine stepE_end 14 rfl (by kernel_rfl) rfl (by rfl) (fun K hK => ?_)
      refine e_store1 Hz m210 1 rfl rfl rfl rfl rfl sz3rao (by dsimp only [List.set] <;> rfl) ?_
      clear m210; intro w225 m225 hB225
      clear hB225
      refine hK _ _ ?_; clear hK K
      refine wpAnyE_done (by kernel_rfl) ?_ _
      show K6 _ _
      exact hC6 _ _ ⟨_, Hz.only [0, 3, 4, 5], m225.ren [(50, 50), (1, 1), (2, 2), (3, 3), (4, 4), (5, 5), (6, 6), (7, 7), (8, 8)] (by decide)⟩
     ·
      have m226 : MemOk _ _ [(1, _), (2, _), (3, _), (4, _), (5, _), (6, _), (7, _), (8, _), (50, _)] _ := m37.only [1, 2, 3, 4, 5, 6, 7, 8, 50]; clear m37
      refine region_p 14 (B := [(1, _), (2, _), (3, _), (4, _), (5, _), (6, _), (7, _), (8, _), (50, _)]) (m226.to ⟨il, il, il, il, il, il, il, il, il, trivial⟩) m226 (by kernel_rfl) (fun w227 hP227 m227 => ?_); clear m226
      refine goR hP227 [0, 1, 2, 3, 4, 5, 6, 7, 8, 9, 10, 11, 12, 13] [8] 14 0 16383 Hz (m227.to ⟨il, il, il, il, il, il, il, il, il, trivial⟩) (.move rfl <| .move rfl <| .move rfl <| .move rfl <| .nilCheck rfl <| .fieldAddr (off := 5) rfl Tryz.underlying86 rfl (s := 14) (by kernel_rfl) rfl <| .fieldAddr (off := 13) rfl Tryz.underlying84 rfl (s := 6) (by kernel_rfl) rfl <| .p (fun _ _ h_ => y_idxA h_ rfl rfl Tryz.underlying82 sz3rao 2 rfl (by decide) (off := 15) rfl) <| .loadB1 hh (i := 1) rfl rfl rfl Tryz.underlying3 rfl <| .add rfl rfl (r := (max (mx s.x 2) ix) + 1) (IntWalk.i64_in ((max (mx s.x 2) ix) + 1) (by omega)) <| .nilCheck rfl <| .fieldAddr (off := 5) rfl Tryz.underlying86 rfl (s := 14) (by kernel_rfl) rfl <| .fieldAddr (off := 6) rfl Tryz.underlying84 rfl (s := 6) (by kernel_rfl) rfl <| .p (fun _ _ h_ => y_idxA h_ rfl rfl Tryz.underlying82 sz3rao 2 rfl (by decide) (off := 8) rfl) <| .nil) ?_
      clear Hz Az; intro Az Hz
      refine stepE_end 14 rfl (by kernel_rfl) rfl (by rfl) (fun K hK => ?_)
      refine e_store1 Hz m227 1 rfl rfl rfl rfl rfl sz3rao (by dsimp only [List.set] <;> rfl) ?_
      clear m227; intro w242 m242 hB242
      clear hB242
      refine hK _ _ ?_; clear hK K
      refine wpAnyE_done (by kernel_rfl) ?_ _
      show K6 _ _
      exact hC6 _ _ ⟨_, Hz.only [0, 3, 4, 5], m242.ren [(50, 50), (1, 1), (2, 2), (3, 3), (4, 4), (5, 5), (6, 6), (7, 7), (8, 8)] (by decide)⟩
     ·
      have m243 : MemOk _ _ [(1, _), (2, _), (3, _), (4, _), (5, _), (6, _), (7, _), (8, _), (50, _)] _ := m37.only [1, 2, 3, 4, 5, 6, 7, 8, 50]; clear m37
      refine region_p 14 (B := [(1, _), (2, _), (3, _), (4, _), (5, _), (6, _), (7, _), (8, _), (50, _)]) (m243.to ⟨il, il, il, il, il, il, il, il, il, trivial⟩) m243 (by kernel_rfl) (fun w244 hP244 m244 => ?_); clear m243
      refine goR hP244 [0, 1, 2, 3, 4, 5, 6, 7, 8, 9, 10, 11, 12, 13] [8] 14 0 16383 Hz (m244.to ⟨il, il, il, il, il, il, il, il, il, trivial⟩) (.move rfl <| .move rfl <| .move rfl <| .move rfl <| .nilCheck rfl <| .fieldAddr (off := 5) rfl Tryz.underlying86 rfl (s := 14) (by kernel_rfl) rfl <| .fieldAddr (off := 13) rfl Tryz.underlying84 rfl (s := 6) (by kernel_rfl) rfl <| .p (fun _ _ h_ => y_idxA h_ rfl rfl Tryz.underlying82 sz3rao 3 rfl (by decide) (off := 16) rfl) <| .loadB1 hh (i := 1) rfl rfl rfl Tryz.underlying3 rfl <| .add rfl rfl (r := (max (mx s.x 3) ix) + 1) (IntWalk.i64_in ((max (mx s.x 3) ix) + 1) (by omega)) <| .nilCheck rfl <| .fieldAddr (off := 5) rfl Tryz.underlying86 rfl (s := 14) (by kernel_rfl) rfl <| .fieldAddr (off := 6) rfl Tryz.underlying84 rfl (s := 6) (by kernel_rfl) rfl <| .p (fun _ _ h_ => y_idxA h_ rfl rfl Tryz.underlying82 sz3rao 3 rfl (by decide) (off := 9) rfl) <| .nil) ?_
      clear Hz Az; intro Az Hz
      refine stepE_end 14 rfl (by kernel_rfl) rfl (by rfl) (fun K hK => ?_)
      refine e_store1 Hz m244 1 rfl rfl rfl rfl rfl sz3rao (by dsimp only [List.set] <;> rfl) ?_
      clear m244; intro w259 m259 hB259
      clear hB259
      refine hK _ _ ?_; clear hK K
      refine wpAnyE_done (by kernel_rfl) ?_ _
      show K6 _ _
      exact hC6 _ _ ⟨_, Hz.only [0, 3, 4, 5], m259.ren [(50, 50), (1, 1), (2, 2), (3, 3), (4, 4), (5, 5), (6, 6), (7, 7), (8, 8)] (by decide)⟩
     ·
      have m260 : MemOk _ _ [(1, _), (2, _), (3, _), (4, _), (5, _), (6, _), (7, _), (8, _), (50, _)] _ := m37.only [1, 2, 3, 4, 5, 6, 7, 8, 50]; clear m37
      refine region_p 14 (B := [(1, _), (2, _), (3, _), (4, _), (5, _), (6, _), (7, _), (8, _), (50, _)]) (m260.to ⟨il, il, il, il, il, il, il, il, il, trivial⟩) m260 (by kernel_rfl) (fun w261 hP261 m261 => ?_); clear m260
      refine goR hP261 [0, 1, 2, 3, 4, 5, 6, 7, 8, 9, 10, 11, 12, 13] [8] 14 0 16383 Hz (m261.to ⟨il, il, il, il, il, il, il, il, il, trivial⟩) (.move rfl <| .move rfl <| .move rfl <| .move rfl <| .nilCheck rfl <| .fieldAddr (off := 5) rfl Tryz.underlying86 rfl (s := 14) (by kernel_rfl) rfl <| .fieldAddr (off := 13) rfl Tryz.underlying84 rfl (s := 6) (by kernel_rfl) rfl <| .p (fun _ _ h_ => y_idxA h_ rfl rfl Tryz.underlying82 sz3rao 4 rfl (by decide) (off := 17) rfl) <| .loadB1 hh (i := 1) rfl rfl rfl Tryz.underlying3 rfl <| .add rfl rfl (r := (max (mx s.x 4) ix) + 1) (IntWalk.i64_in ((max (mx s.x 4) ix) + 1) (by omega)) <| .nilCheck rfl <| .fieldAddr (off := 5) rfl Tryz.underlying86 rfl (s := 14) (by kernel_rfl) rfl <| .fieldAddr (off := 6) rfl Tryz.underlying84 rfl (s := 6) (by kernel_rfl) rfl <| .p (fun _ _ h_ => y_idxA h_ rfl rfl Tryz.underlying82 sz3rao 4 rfl (by decide) (off := 10) rfl) <| .nil) ?_
      clear Hz Az; intro Az Hz
      refine stepE_end 14 rfl (by kernel_rfl) rfl (by rfl) (fun K hK => ?_)
      refine e_store1 Hz m261 1 rfl rfl rfl rfl rfl sz3rao (by dsimp only [List.set] <;> rfl) ?_
      clear m261; intro w276 m276 hB276
      clear hB276
      refine hK _ _ ?_; clear hK K
      refine wpAnyE_done (by kernel_rfl) ?_ _
      show K6 _ _
      exact hC6 _ _ ⟨_, Hz.only [0, 3, 4, 5], m276.ren [(50, 50), (1, 1), (2, 2), (3, 3), (4, 4), (5, 5), (6, 6), (7, 7), (8, 8)] (by decide)⟩
     ·
      have m277 : MemOk _ _ [(1, _), (2, _), (3, _), (4, _), (5, _), (6, _), (7, _), (8, _), (50, _)] _ := m37.only [1, 2, 3, 4, 5, 6, 7, 8, 50]; clear m37
      refine region_p 14 (B := [(1, _), (2, _), (3, _), (4, _), (5, _), (6, _), (7, _), (8, _), (50, _)]) (m277.to ⟨il, il, il, il, il, il, il, il, il, trivial⟩) m277 (by kernel_rfl) (fun w278 hP278 m278 => ?_); clear m277
      refine goR hP278 [0, 1, 2, 3, 4, 5, 6, 7, 8, 9, 10, 11, 12, 13] [8] 14 0 16383 Hz (m278.to ⟨il, il, il, il, il, il, il, il, il, trivial⟩) (.move rfl <| .move rfl <| .move rfl <| .move rfl <| .nilCheck rfl <| .fieldAddr (off := 5) rfl Tryz.underlying86 rfl (s := 14) (by kernel_rfl) rfl <| .fieldAddr (off := 13) rfl Tryz.underlying84 rfl (s := 6) (by kernel_rfl) rfl <| .p (fun _ _ h_ => y_idxA h_ rfl rfl Tryz.underlying82 sz3rao 5 rfl (by decide) (off := 18) rfl) <| .loadB1 hh (i := 1) rfl rfl rfl Tryz.underlying3 rfl <| .add rfl rfl (r := (max (mx s.x 5) ix) + 1) (IntWalk.i64_in ((max (mx s.x 5) ix) + 1) (by omega)) <| .nilCheck rfl <| .fieldAddr (off := 5) rfl Tryz.underlying86 rfl (s := 14) (by kernel_rfl) rfl <| .fieldAddr (off := 6) rfl Tryz.underlying84 rfl (s := 6) (by kernel_rfl) rfl <| .p (fun _ _ h_ => y_idxA h_ rfl rfl Tryz.underlying82 sz3rao 5 rfl (by decide) (off := 11) rfl) <| .nil) ?_
      clear Hz Az; intro Az Hz
      refine stepE_end 14 rfl (by kernel_rfl) rfl (by rfl) (fun K hK => ?_)
      refine e_store1 Hz m278 1 rfl rfl rfl rfl rfl sz3rao (by dsimp only [List.set] <;> rfl) ?_
      clear m278; intro w293 m293 hB293
      clear hB293
      refine hK _ _ ?_; clear hK K
      refine wpAnyE_done (by kernel_rfl) ?_ _
      show K6 _ _
      exact hC6 _ _ ⟨_, Hz.only [0, 3, 4, 5], m293.ren [(50, 50), (1, 1), (2, 2), (3, 3), (4, 4), (5, 5), (6, 6), (7, 7), (8, 8)] (by decide)⟩
     ·
      have m294 : MemOk _ _ [(1, _), (2, _), (3, _), (4, _), (5, _), (6, _), (7, _), (8, _), (50, _)] _ := m37.only [1, 2, 3, 4, 5, 6, 7, 8, 50]; clear m37
      refine region_p 14 (B := [(1, _), (2, _), (3, _), (4, _), (5, _), (6, _), (7, _), (8, _), (50, _)]) (m294.to ⟨il, il, il, il, il, il, il, il, il, trivial⟩) m294 (by kernel_rfl) (fun w295 hP295 m295 => ?_); clear m294
      refine goR hP295 [0, 1, 2, 3, 4, 5, 6, 7, 8, 9, 10, 11, 12, 13] [8] 14 0 16383 Hz (m295.to ⟨il, il, il, il, il, il, il, il, il, trivial⟩) (.move rfl <| .move rfl <| .move rfl <| .move rfl <| .nilCheck rfl <| .fieldAddr (off := 5) rfl Tryz.underlying86 rfl (s := 14) (by kernel_rfl) rfl <| .fieldAddr (off := 13) rfl Tryz.underlying84 rfl (s := 6) (by kernel_rfl) rfl <| .p (fun _ _ h_ => y_idxA h_ rfl rfl Tryz.underlying82 sz3rao 6 rfl (by decide) (off := 19) rfl) <| .loadB1 hh (i := 1) rfl rfl rfl Tryz.underlying3 rfl <| .add rfl rfl (r := (max (mx s.x 6) ix) + 1) (IntWalk.i64_in ((max (mx s.x 6) ix) + 1) (by omega)) <| .nilCheck rfl <| .fieldAddr (off := 5) rfl Tryz.underlying86 rfl (s := 14) (by kernel_rfl) rfl <| .fieldAddr (off := 6) rfl Tryz.underlying84 rfl (s := 6) (by kernel_rfl) rfl <| .p (fun _ _ h_ => y_idxA h_ rfl rfl Tryz.underlying82 sz3rao 6 rfl (by decide) (off := 12) rfl) <| .nil) ?_
      clear Hz Az; intro Az Hz
      refine stepE_end 14 rfl (by kernel_rfl) rfl (by rfl) (fun K hK => ?_)
      refine e_store1 Hz m295 1 rfl rfl rfl rfl rfl sz3rao (by dsimp only [List.set] <;> rfl) ?_
      clear m295; intro w310 m310 hB310
      clear hB310
      refine hK _ _ ?_; clear hK K
      refine wpAnyE_done (by kernel_rfl) ?_ _
      show K6 _ _
      exact hC6 _ _ ⟨_, Hz.only [0, 3, 4, 5], m310.ren [(50, 50), (1, 1), (2, 2), (3, 3), (4, 4), (5, 5), (6, 6), (7, 7), (8, 8)] (by decide)⟩
   rcases (show f = 0 ∨ f = 1 ∨ f = 2 ∨ f = 3 ∨ f = 4 ∨ f = 5 ∨ f = 6 by omega) with rfl | rfl | rfl | rfl | rfl | rfl | rfl
   ·
    have m311 : MemOk _ _ [(1, _), (2, _), (3, _), (4, _), (5, _), (6, _), (7, _), (8, _), (50, _)] _ := m36.only [1, 2, 3, 4, 5, 6, 7, 8, 50]; clear m36
    refine region_p 16 (B := [(1, _), (2, _), (3, _), (4, _), (5, _), (6, _), (7, _), (8, _), (50, _)]) (m311.to ⟨il, il, il, il, il, il, il, il, il, trivial⟩) m311 (by kernel_rfl) (fun w312 hP312 m312 => ?_); clear m311
    refine goR hP312 [0, 1, 2, 3, 4, 5, 6, 7, 8, 9, 10, 11, 12, 13, 14, 15] [8, 10] 16 0 65535 Hz (m312.to ⟨il, il, il, il, il, il, il, il, il, trivial⟩) (.move rfl <| .move rfl <| .move rfl <| .move rfl <| .nilCheck rfl <| .fieldAddr (off := 5) rfl Tryz.underlying86 rfl (s := 14) (by kernel_rfl) rfl <| .fieldAddr (off := 13) rfl Tryz.underlying84 rfl (s := 6) (by kernel_rfl) rfl <| .p (fun _ _ h_ => y_idxA h_ rfl rfl Tryz.underlying82 sz3rao 0 rfl (by decide) (off := 13) rfl) <| .loadB1 hh (i := 1) rfl rfl rfl Tryz.underlying3 rfl <| .fieldAddr (off := 5) rfl Tryz.underlying55 rfl (s := 0) (by kernel_rfl) rfl <| .loadB1 hh (i := 50) rfl rfl rfl Tryz.underlying3 rfl <| .p (fun _ _ h_ => y_max h_ rfl rfl rfl) <| .nilCheck rfl <| .fieldAddr (off := 5) rfl Tryz.underlying86 rfl (s := 14) (by kernel_rfl) rfl <| .fieldAddr (off := 13) rfl Tryz.underlying84 rfl (s := 6) (by kernel_rfl) rfl <| .p (fun _ _ h_ => y_idxA h_ rfl rfl Tryz.underlying82 sz3rao 0 rfl (by decide) (off := 13) rfl) <| .nil) ?_
    clear Hz Az; intro Az Hz
    refine stepE_end 16 rfl (by kernel_rfl) rfl (by rfl) (fun K hK => ?_)
    refine e_store1 Hz m312 1 rfl rfl rfl rfl rfl sz3rao (by dsimp only [List.set] <;> rfl) ?_
    clear m312; intro w329 m329 hB329
    clear hB329
    refine hK _ _ ?_; clear hK K
    refine wpAnyE_done (by kernel_rfl) ?_ _
    show K5 _ _
    exact hC5 _ _ ⟨_, Hz.only [0, 3, 4, 5], m329.ren [(50, 50), (1, 1), (2, 2), (3, 3), (4, 4), (5, 5), (6, 6), (7, 7), (8, 8)] (by decide)⟩
   ·
    have m330 : MemOk _ _ [(1, _), (2, _), (3, _), (4, _), (5, _), (6, _), (7, _), (8, _), (50, _)] _ := m36.only [1, 2, 3, 4, 5, 6, 7, 8, 50]; clear m36
    refine region_p 16 (B := [(1, _), (2, _), (3, _), (4, _), (5, _), (6, _), (7, _), (8, _), (50, _)]) (m330.to ⟨il, il, il, il, il, il, il, il, il, trivial⟩) m330 (by kernel_rfl) (fun w331 hP331 m331 => ?_); clear m330
    refine goR hP331 [0, 1, 2, 3, 4, 5, 6, 7, 8, 9, 10, 11, 12, 13, 14, 15] [8, 10] 16 0 65535 Hz (m331.to ⟨il, il, il, il, il, il, il, il, il, trivial⟩) (.move rfl <| .move rfl <| .move rfl <| .move rfl <| .nilCheck rfl <| .fieldAddr (off := 5) rfl Tryz.underlying86 rfl (s := 14) (by kernel_rfl) rfl <| .fieldAddr (off := 13) rfl Tryz.underlying84 rfl (s := 6) (by kernel_rfl) rfl <| .p (fun _ _ h_ => y_idxA h_ rfl rfl Tryz.underlying82 sz3rao 1 rfl (by decide) (off := 14) rfl) <| .loadB1 hh (i := 1) rfl rfl rfl Tryz.underlying3 rfl <| .fieldAddr (off := 5) rfl Tryz.underlying55 rfl (s := 0) (by kernel_rfl) rfl <| .loadB1 hh (i := 50) rfl rfl rfl Tryz.underlying3 rfl <| .p (fun _ _ h_ => y_max h_ rfl rfl rfl) <| .nilCheck rfl <| .fieldAddr (off := 5) rfl Tryz.underlying86 rfl (s := 14) (by kernel_rfl) rfl <| .fieldAddr (off := 13) rfl Tryz.underlying84 rfl (s := 6) (by kernel_rfl) rfl <| .p (fun _ _ h_ => y_idxA h_ rfl rfl Tryz.underlying82 sz3rao 1 rfl (by decide) (off := 14) rfl) <| .nil) ?_
    clear Hz Az; intro Az Hz
    refine stepE_end 16 rfl (by kernel_rfl) rfl (by rfl) (fun K hK => ?_)
    refine e_store1 Hz m331 1 rfl rfl rfl rfl rfl sz3rao (by dsimp only [List.set] <;> rfl) ?_
    clear m331; intro w348 m348 hB348
    clear hB348
    refine hK _ _ ?_; clear hK K
    refine wpAnyE_done (by kernel_rfl) ?_ _
    show K5 _ _
    exact hC5 _ _ ⟨_, Hz.only [0, 3, 4, 5], m348.ren [(50, 50), (1, 1), (2, 2), (3, 3), (4, 4), (5, 5), (6, 6), (7, 7), (8, 8)] (by decide)⟩
   ·
    have m349 : MemOk _ _ [(1, _), (2, _), (3, _), (4, _), (5, _), (6, _), (7, _), (8, _), (50, _)] _ := m36.only [1, 2, 3, 4, 5, 6, 7, 8, 50]; clear m36
    refine region_p 16 (B := [(1, _), (2, _), (3, _), (4, _), (5, _), (6, _), (7, _), (8, _), (50, _)]) (m349.to ⟨il, il, il, il, il, il, il, il, il, trivial⟩) m349 (by kernel_rfl) (fun w350 hP350 m350 => ?_); clear m349
    refine goR hP350 [0, 1, 2, 3, 4, 5, 6, 7, 8, 9, 10, 11, 12, 13, 14, 15] [8, 10] 16 0 65535 Hz (m350.to ⟨il, il, il, il, il, il, il, il, il, trivial⟩) (.move rfl <| .move rfl <| .move rfl <| .move rfl <| .nilCheck rfl <| .fieldAddr (off := 5) rfl Tryz.underlying86 rfl (s := 14) (by kernel_rfl) rfl <| .fieldAddr (off := 13) rfl Tryz.underlying84 rfl (s := 6) (by kernel_rfl) rfl <| .p (fun _ _ h_ => y_idxA h_ rfl rfl Tryz.underlying82 sz3rao 2 rfl (by decide) (off := 15) rfl) <| .loadB1 hh (i := 1) rfl rfl rfl Tryz.underlying3 rfl <| .fieldAddr (off := 5) rfl Tryz.underlying55 rfl (s := 0) (by kernel_rfl) rfl <| .loadB1 hh (i := 50) rfl rfl rfl Tryz.underlying3 rfl <| .p (fun _ _ h_ => y_max h_ rfl rfl rfl) <| .nilCheck rfl <| .fieldAddr (off := 5) rfl Tryz.underlying86 rfl (s := 14) (by kernel_rfl) rfl <| .fieldAddr (off := 13) rfl Tryz.underlying84 rfl (s := 6) (by kernel_rfl) rfl <| .p (fun _ _ h_ => y_idxA h_ rfl rfl Tryz.underlying82 sz3rao 2 rfl (by decide) (off := 15) rfl) <| .nil) ?_
    clear Hz Az; intro Az Hz
    refine stepE_end 16 rfl (by kernel_rfl) rfl (by rfl) (fun K hK => ?_)
    refine e_store1 Hz m350 1 rfl rfl rfl rfl rfl sz3rao (by dsimp only [List.set] <;> rfl) ?_
    clear m350; intro w367 m367 hB367
    clear hB367
    refine hK _ _ ?_; clear hK K
    refine wpAnyE_done (by kernel_rfl) ?_ _
    show K5 _ _
    exact hC5 _ _ ⟨_, Hz.only [0, 3, 4, 5], m367.ren [(50, 50), (1, 1), (2, 2), (3, 3), (4, 4), (5, 5), (6, 6), (7, 7), (8, 8)] (by decide)⟩
   ·
    have m368 : MemOk _ _ [(1, _), (2, _), (3, _), (4, _), (5, _), (6, _), (7, _), (8, _), (50, _)] _ := m36.only [1, 2, 3, 4, 5, 6, 7, 8, 50]; clear m36
    refine region_p 16 (B := [(1, _), (2, _), (3, _), (4, _), (5, _), (6, _), (7, _), (8, _), (50, _)]) (m368.to ⟨il, il, il, il, il, il, il, il, il, trivial⟩) m368 (by kernel_rfl) (fun w369 hP369 m369 => ?_); clear m368
    refine goR hP369 [0, 1, 2, 3, 4, 5, 6, 7, 8, 9, 10, 11, 12, 13, 14, 15] [8, 10] 16 0 65535 Hz (m369.to ⟨il, il, il, il, il, il, il, il, il, trivial⟩) (.move rfl <| .move rfl <| .move rfl <| .move rfl <| .nilCheck rfl <| .fieldAddr (off := 5) rfl Tryz.underlying86 rfl (s := 14) (by kernel_rfl) rfl <| .fieldAddr (off := 13) rfl Tryz.underlying84 rfl (s := 6) (by kernel_rfl) rfl <| .p (fun _ _ h_ => y_idxA h_ rfl rfl Tryz.underlying82 sz3rao 3 rfl (by decide) (off := 16) rfl) <| .loadB1 hh (i := 1) rfl rfl rfl Tryz.underlying3 rfl <| .fieldAddr (off := 5) rfl Tryz.underlying55 rfl (s := 0) (by kernel_rfl) rfl <| .loadB1 hh (i := 50) rfl rfl rfl Tryz.underlying3 rfl <| .p (fun _ _ h_ => y_max h_ rfl rfl rfl) <| .nilCheck rfl <| .fieldAddr (off := 5) rfl Tryz.underlying86 rfl (s := 14) (by kernel_rfl) rfl <| .fieldAddr (off := 13) rfl Tryz.underlying84 rfl (s := 6) (by kernel_rfl) rfl <| .p (fun _ _ h_ => y_idxA h_ rfl rfl Tryz.underlying82 sz3rao 3 rfl (by decide) (off := 16) rfl) <| .nil) ?_
    clear Hz Az; intro Az Hz
    refine stepE_end 16 rfl (by kernel_rfl) rfl (by rfl) (fun K hK => ?_)
    refine e_store1 Hz m369 1 rfl rfl rfl rfl rfl sz3rao (by dsimp only [List.set] <;> rfl) ?_
    clear m369; intro w386 m386 hB386
    clear hB386
    refine hK _ _ ?_; clear hK K
    refine wpAnyE_done (by kernel_rfl) ?_ _
    show K5 _ _
    exact hC5 _ _ ⟨_, Hz.only [0, 3, 4, 5], m386.ren [(50, 50), (1, 1), (2, 2), (3, 3), (4, 4), (5, 5), (6, 6), (7, 7), (8, 8)] (by decide)⟩
   ·
    have m387 : MemOk _ _ [(1, _), (2, _), (3, _), (4, _), (5, _), (6, _), (7, _), (8, _), (50, _)] _ := m36.only [1, 2, 3, 4, 5, 6, 7, 8, 50]; clear m36
    refine region_p 16 (B := [(1, _), (2, _), (3, _), (4, _), (5, _), (6, _), (7, _), (8, _), (50, _)]) (m387.to ⟨il, il, il, il, il, il, il, il, il, trivial⟩) m387 (by kernel_rfl) (fun w388 hP388 m388 => ?_); clear m387
    refine goR hP388 [0, 1, 2, 3, 4, 5, 6, 7, 8, 9, 10, 11, 12, 13, 14, 15] [8, 10] 16 0 65535 Hz (m388.to ⟨il, il, il, il, il, il, il, il, il, trivial⟩) (.move rfl <| .move rfl <| .move rfl <| .move rfl <| .nilCheck rfl <| .fieldAddr (off := 5) rfl Tryz.underlying86 rfl (s := 14) (by kernel_rfl) rfl <| .fieldAddr (off := 13) rfl Tryz.underlying84 rfl (s := 6) (by kernel_rfl) rfl <| .p (fun _ _ h_ => y_idxA h_ rfl rfl Tryz.underlying82 sz3rao 4 rfl (by decide) (off := 17) rfl) <| .loadB1 hh (i := 1) rfl rfl rfl Tryz.underlying3 rfl <| .fieldAddr (off := 5) rfl Tryz.underlying55 rfl (s := 0) (by kernel_rfl) rfl <| .loadB1 hh (i := 50) rfl rfl rfl Tryz.underlying3 rfl <| .p (fun _ _ h_ => y_max h_ rfl rfl rfl) <| .nilCheck rfl <| .fieldAddr (off := 5) rfl Tryz.underlying86 rfl (s := 14) (by kernel_rfl) rfl <| .fieldAddr (off := 13) rfl Tryz.underlying84 rfl (s := 6) (by kernel_rfl) rfl <| .p (fun _ _ h_ => y_idxA h_ rfl rfl Tryz.underlying82 sz3rao 4 rfl (by decide) (off := 17) rfl) <| .nil) ?_
    clear Hz Az; intro Az Hz
    refine stepE_end 16 rfl (by kernel_rfl) rfl (by rfl) (fun K hK => ?_)
    refine e_store1 Hz m388 1 rfl rfl rfl rfl rfl sz3rao (by dsimp only [List.set] <;> rfl) ?_
    clear m388; intro w405 m405 hB405
    clear hB405
    refine hK _ _ ?_; clear hK K
    refine wpAnyE_done (by kernel_rfl) ?_ _
    show K5 _ _
    exact hC5 _ _ ⟨_, Hz.only [0, 3, 4, 5], m405.ren [(50, 50), (1, 1), (2, 2), (3, 3), (4, 4), (5, 5), (6, 6), (7, 7), (8, 8)] (by decide)⟩
   ·
    have m406 : MemOk _ _ [(1, _), (2, _), (3, _), (4, _), (5, _), (6, _), (7, _), (8, _), (50, _)] _ := m36.only [1, 2, 3, 4, 5, 6, 7, 8, 50]; clear m36
    refine region_p 16 (B := [(1, _), (2, _), (3, _), (4, _), (5, _), (6, _), (7, _), (8, _), (50, _)]) (m406.to ⟨il, il, il, il, il, il, il, il, il, trivial⟩) m406 (by kernel_rfl) (fun w407 hP407 m407 => ?_); clear m406
    refine goR hP407 [0, 1, 2, 3, 4, 5, 6, 7, 8, 9, 10, 11, 12, 13, 14, 15] [8, 10] 16 0 65535 Hz (m407.to ⟨il, il, il, il, il, il, il, il, il, trivial⟩) (.move rfl <| .move rfl <| .move rfl <| .move rfl <| .nilCheck rfl <| .fieldAddr (off := 5) rfl Tryz.underlying86 rfl (s := 14) (by kernel_rfl) rfl <| .fieldAddr (off := 13) rfl Tryz.underlying84 rfl (s := 6) (by kernel_rfl) rfl <| .p (fun _ _ h_ => y_idxA h_ rfl rfl Tryz.underlying82 sz3rao 5 rfl (by decide) (off := 18) rfl) <| .loadB1 hh (i := 1) rfl rfl rfl Tryz.underlying3 rfl <| .fieldAddr (off := 5) rfl Tryz.underlying55 rfl (s := 0) (by kernel_rfl) rfl <| .loadB1 hh (i := 50) rfl rfl rfl Tryz.underlying3 rfl <| .p (fun _ _ h_ => y_max h_ rfl rfl rfl) <| .nilCheck rfl <| .fieldAddr (off := 5) rfl Tryz.underlying86 rfl (s := 14) (by kernel_rfl) rfl <| .fieldAddr (off := 13) rfl Tryz.underlying84 rfl (s := 6) (by kernel_rfl) rfl <| .p (fun _ _ h_ => y_idxA h_ rfl rfl Tryz.underlying82 sz3rao 5 rfl (by decide) (off := 18) rfl) <| .nil) ?_
    clear Hz Az; intro Az Hz
    refine stepE_end 16 rfl (by kernel_rfl) rfl (by rfl) (fun K hK => ?_)
    refine e_store1 Hz m407 1 rfl rfl rfl rfl rfl sz3rao (by dsimp only [List.set] <;> rfl) ?_
    clear m407; intro w424 m424 hB424
    clear hB424
    refine hK _ _ ?_; clear hK K
    refine wpAnyE_done (by kernel_rfl) ?_ _
    show K5 _ _
    exact hC5 _ _ ⟨_, Hz.only [0, 3, 4, 5], m424.ren [(50, 50), (1, 1), (2, 2), (3, 3), (4, 4), (5, 5), (6, 6), (7, 7), (8, 8)] (by decide)⟩
   ·
    have m425 : MemOk _ _ [(1, _), (2, _), (3, _), (4, _), (5, _), (6, _), (7, _), (8, _), (50, _)] _ := m36.only [1, 2, 3, 4, 5, 6, 7, 8, 50]; clear m36
    refine region_p 16 (B := [(1, _), (2, _), (3, _), (4, _), (5, _), (6, _), (7, _), (8, _), (50, _)]) (m425.to ⟨il, il, il, il, il, il, il, il, il, trivial⟩) m425 (by kernel_rfl) (fun w426 hP426 m426 => ?_); clear m425
    refine goR hP426 [0, 1, 2, 3, 4, 5, 6, 7, 8, 9, 10, 11, 12, 13, 14, 15] [8, 10] 16 0 65535 Hz (m426.to ⟨il, il, il, il, il, il, il, il, il, trivial⟩) (.move rfl <| .move rfl <| .move rfl <| .move rfl <| .nilCheck rfl <| .fieldAddr (off := 5) rfl Tryz.underlying86 rfl (s := 14) (by kernel_rfl) rfl <| .fieldAddr (off := 13) rfl Tryz.underlying84 rfl (s := 6) (by kernel_rfl) rfl <| .p (fun _ _ h_ => y_idxA h_ rfl rfl Tryz.underlying82 sz3rao 6 rfl (by decide) (off := 19) rfl) <| .loadB1 hh (i := 1) rfl rfl rfl Tryz.underlying3 rfl <| .fieldAddr (off := 5) rfl Tryz.underlying55 rfl (s := 0) (by kernel_rfl) rfl <| .loadB1 hh (i := 50) rfl rfl rfl Tryz.underlying3 rfl <| .p (fun _ _ h_ => y_max h_ rfl rfl rfl) <| .nilCheck rfl <| .fieldAddr (off := 5) rfl Tryz.underlying86 rfl (s := 14) (by kernel_rfl) rfl <| .fieldAddr (off := 13) rfl Tryz.underlying84 rfl (s := 6) (by kernel_rfl) rfl <| .p (fun _ _ h_ => y_idxA h_ rfl rfl Tryz.underlying82 sz3rao 6 rfl (by decide) (off := 19) rfl) <| .nil) ?_
    clear Hz Az; intro Az Hz
    refine stepE_end 16 rfl (by kernel_rfl) rfl (by rfl) (fun K hK => ?_)
    refine e_store1 Hz m426 1 rfl rfl rfl rfl rfl sz3rao (by dsimp only [List.set] <;> rfl) ?_
    clear m426; intro w443 m443 hB443
    clear hB443
    refine hK _ _ ?_; clear hK K
    refine wpAnyE_done (by kernel_rfl) ?_ _
    show K5 _ _
    exact hC5 _ _ ⟨_, Hz.only [0, 3, 4, 5], m443.ren [(50, 50), (1, 1), (2, 2), (3, 3), (4, 4), (5, 5), (6, 6), (7, 7), (8, 8)] (by decide)⟩
 rcases (show f = 0 ∨ f = 1 ∨ f = 2 ∨ f = 3 ∨ f = 4 ∨ f = 5 ∨ f = 6 by omega) with rfl | rfl | rfl | rfl | rfl | rfl | rfl
 ·
  have m444 : MemOk _ _ [(1, _), (2, _), (3, _), (4, _), (5, _), (6, _), (7, _), (8, _), (50, _), (51, _)] _ := m27.only [1, 2, 3, 4, 5, 6, 7, 8, 50, 51]; clear m27
  refine region_p 11 (B := [(1, _), (2, _), (3, _), (4, _), (5, _), (6, _), (7, _), (8, _), (50, _), (51, _)]) (m444.to ⟨il, il, il, il, il, il, il, il, il, il, trivial⟩) m444 (by kernel_rfl) (fun w445 hP445 m445 => ?_); clear m444
  refine goR hP445 [0, 1, 2, 3, 4, 5, 6, 7, 8, 9, 10] [1, 8] 11 0 2047 Hz (m445.to ⟨il, il, il, il, il, il, il, il, il, il, trivial⟩) (.fieldAddr (off := 5) rfl Tryz.underlying55 rfl (s := 0) (by kernel_rfl) rfl <| .loadB1 hh (i := 50) rfl rfl rfl Tryz.underlying3 rfl <| .move rfl <| .move rfl <| .nilCheck rfl <| .fieldAddr (off := 5) rfl Tryz.underlying86 rfl (s := 14) (by kernel_rfl) rfl <| .fieldAddr (off := 13) rfl Tryz.underlying84 rfl (s := 6) (by kernel_rfl) rfl <| .p (fun _ _ h_ => y_idxA h_ rfl rfl Tryz.underlying82 sz3rao 0 rfl (by decide) (off := 13) rfl) <| .loadB1 hh (i := 1) rfl rfl rfl Tryz.underlying3 rfl <| .gtr rfl rfl <| .assign rfl <| .nil) ?_
  clear Hz Az; intro Az Hz
  refine wpAnyE_done (by kernel_rfl) ?_ _
  show K4 _ _
  exact hC4 _ _ ⟨_, Hz.only [0, 3, 4, 5], m445.ren [(50, 50), (1, 1), (2, 2), (3, 3), (4, 4), (5, 5), (6, 6), (7, 7), (8, 8)] (by decide)⟩
 ·
  have m457 : MemOk _ _ [(1, _), (2, _), (3, _), (4, _), (5, _), (6, _), (7, _), (8, _), (50, _), (51, _)] _ := m27.only [1, 2, 3, 4, 5, 6, 7, 8, 50, 51]; clear m27
  refine region_p 11 (B := [(1, _), (2, _), (3, _), (4, _), (5, _), (6, _), (7, _), (8, _), (50, _), (51, _)]) (m457.to ⟨il, il, il, il, il, il, il, il, il, il, trivial⟩) m457 (by kernel_rfl) (fun w458 hP458 m458 => ?_); clear m457
  refine goR hP458 [0, 1, 2, 3, 4, 5, 6, 7, 8, 9, 10] [1, 8] 11 0 2047 Hz (m458.to ⟨il, il, il, il, il, il, il, il, il, il, trivial⟩) (.fieldAddr (off := 5) rfl Tryz.underlying55 rfl (s := 0) (by kernel_rfl) rfl <| .loadB1 hh (i := 50) rfl rfl rfl Tryz.underlying3 rfl <| .move rfl <| .move rfl <| .nilCheck rfl <| .fieldAddr (off := 5) rfl Tryz.underlying86 rfl (s := 14) (by kernel_rfl) rfl <| .fieldAddr (off := 13) rfl Tryz.underlying84 rfl (s := 6) (by kernel_rfl) rfl <| .p (fun _ _ h_ => y_idxA h_ rfl rfl Tryz.underlying82 sz3rao 1 rfl (by decide) (off := 14) rfl) <| .loadB1 hh (i := 1) rfl rfl rfl Tryz.underlying3 rfl <| .gtr rfl rfl <| .assign rfl <| .nil) ?_
  clear Hz Az; intro Az Hz
  refine wpAnyE_done (by kernel_rfl) ?_ _
  show K4 _ _
  exact hC4 _ _ ⟨_, Hz.only [0, 3, 4, 5], m458.ren [(50, 50), (1, 1), (2, 2), (3, 3), (4, 4), (5, 5), (6, 6), (7, 7), (8, 8)] (by decide)⟩
 ·
  have m470 : MemOk _ _ [(1, _), (2, _), (3, _), (4, _), (5, _), (6, _), (7, _), (8, _), (50, _), (51, _)] _ := m27.only [1, 2, 3, 4, 5, 6, 7, 8, 50, 51]; clear m27
  refine region_p 11 (B := [(1, _), (2, _), (3, _), (4, _), (5, _), (6, _), (7, _), (8, _), (50, _), (51, _)]) (m470.to ⟨il, il, il, il, il, il, il, il, il, il, trivial⟩) m470 (by kernel_rfl) (fun w471 hP471 m471 => ?_); clear m470
  refine goR hP471 [0, 1, 2, 3, 4, 5, 6, 7, 8, 9, 10] [1, 8] 11 0 2047 Hz (m471.to ⟨il, il, il, il, il, il, il, il, il, il, trivial⟩) (.fieldAddr (off := 5) rfl Tryz.underlying55 rfl (s := 0) (by kernel_rfl) rfl <| .loadB1 hh (i := 50) rfl rfl rfl Tryz.underlying3 rfl <| .move rfl <| .move rfl <| .nilCheck rfl <| .fieldAddr (off := 5) rfl Tryz.underlying86 rfl (s := 14) (by kernel_rfl) rfl <| .fieldAddr (off := 13) rfl Tryz.underlying84 rfl (s := 6) (by kernel_rfl) rfl <| .p (fun _ _ h_ => y_idxA h_ rfl rfl Tryz.underlying82 sz3rao 2 rfl (by decide) (off := 15) rfl) <| .loadB1 hh (i := 1) rfl rfl rfl Tryz.underlying3 rfl <| .gtr rfl rfl <| .assign rfl <| .nil) ?_
  clear Hz Az; intro Az Hz
  refine wpAnyE_done (by kernel_rfl) ?_ _
  show K4 _ _
  exact hC4 _ _ ⟨_, Hz.only [0, 3, 4, 5], m471.ren [(50, 50), (1, 1), (2, 2), (3, 3), (4, 4), (5, 5), (6, 6), (7, 7), (8, 8)] (by decide)⟩
 ·
  have m483 : MemOk _ _ [(1, _), (2, _), (3, _), (4, _), (5, _), (6, _), (7, _), (8, _), (50, _), (51, _)] _ := m27.only [1, 2, 3, 4, 5, 6, 7, 8, 50, 51]; clear m27
  refine region_p 11 (B := [(1, _), (2, _), (3, _), (4, _), (5, _), (6, _), (7, _), (8, _), (50, _), (51, _)]) (m483.to ⟨il, il, il, il, il, il, il, il, il, il, trivial⟩) m483 (by kernel_rfl) (fun w484 hP484 m484 => ?_); clear m483
  refine goR hP484 [0, 1, 2, 3, 4, 5, 6, 7, 8, 9, 10] [1, 8] 11 0 2047 Hz (m484.to ⟨il, il, il, il, il, il, il, il, il, il, trivial⟩) (.fieldAddr (off := 5) rfl Tryz.underlying55 rfl (s := 0) (by kernel_rfl) rfl <| .loadB1 hh (i := 50) rfl rfl rfl Tryz.underlying3 rfl <| .move rfl <| .move rfl <| .nilCheck rfl <| .fieldAddr (off := 5) rfl Tryz.underlying86 rfl (s := 14) (by kernel_rfl) rfl <| .fieldAddr (off := 13) rfl Tryz.underlying84 rfl (s := 6) (by kernel_rfl) rfl <| .p (fun _ _ h_ => y_idxA h_ rfl rfl Tryz.underlying82 sz3rao 3 rfl (by decide) (off := 16) rfl) <| .loadB1 hh (i := 1) rfl rfl rfl Tryz.underlying3 rfl <| .gtr rfl rfl <| .assign rfl <| .nil) ?_
  clear Hz Az; intro Az Hz
  refine wpAnyE_done (by kernel_rfl) ?_ _
  show K4 _ _
  exact hC4 _ _ ⟨_, Hz.only [0, 3, 4, 5], m484.ren [(50, 50), (1, 1), (2, 2), (3, 3), (4, 4), (5, 5), (6, 6), (7, 7), (8, 8)] (by decide)⟩
 ·
  have m496 : MemOk _ _ [(1, _), (2, _), (3, _), (4, _), (5, _), (6, _), (7, _), (8, _), (50, _), (51, _)] _ := m27.only [1, 2, 3, 4, 5, 6, 7, 8, 50, 51]; clear m27
  refine region_p 11 (B := [(1, _), (2, _), (3, _), (4, _), (5, _), (6, _), (7, _), (8, _), (50, _), (51, _)]) (m496.to ⟨il, il, il, il, il, il, il, il, il, il, trivial⟩) m496 (by kernel_rfl) (fun w497 hP497 m497 => ?_); clear m496
  refine goR hP497 [0, 1, 2, 3, 4, 5, 6, 7, 8, 9, 10] [1, 8] 11 0 2047 Hz (m497.to ⟨il, il, il, il, il, il, il, il, il, il, trivial⟩) (.fieldAddr (off := 5) rfl Tryz.underlying55 rfl (s := 0) (by kernel_rfl) rfl <| .loadB1 hh (i := 50) rfl rfl rfl Tryz.underlying3 rfl <| .move rfl <| .move rfl <| .nilCheck rfl <| .fieldAddr (off := 5) rfl Tryz.underlying86 rfl (s := 14) (by kernel_rfl) rfl <| .fieldAddr (off := 13) rfl Tryz.underlying84 rfl (s := 6) (by kernel_rfl) rfl <| .p (fun _ _ h_ => y_idxA h_ rfl rfl Tryz.underlying82 sz3rao 4 rfl (by decide) (off := 17) rfl) <| .loadB1 hh (i := 1) rfl rfl rfl Tryz.underlying3 rfl <| .gtr rfl rfl <| .assign rfl <| .nil) ?_
  clear Hz Az; intro Az Hz
  refine wpAnyE_done (by kernel_rfl) ?_ _
  show K4 _ _
  exact hC4 _ _ ⟨_, Hz.only [0, 3, 4, 5], m497.ren [(50, 50), (1, 1), (2, 2), (3, 3), (4, 4), (5, 5), (6, 6), (7, 7), (8, 8)] (by decide)⟩
 ·
  have m509 : MemOk _ _ [(1, _), (2, _), (3, _), (4, _), (5, _), (6, _), (7, _), (8, _), (50, _), (51, _)] _ := m27.only [1, 2, 3, 4, 5, 6, 7, 8, 50, 51]; clear m27
  refine region_p 11 (B := [(1, _), (2, _), (3, _), (4, _), (5, _), (6, _), (7, _), (8, _), (50, _), (51, _)]) (m509.to ⟨il, il, il, il, il, il, il, il, il, il, trivial⟩) m509 (by kernel_rfl) (fun w510 hP510 m510 => ?_); clear m509
  refine goR hP510 [0, 1, 2, 3, 4, 5, 6, 7, 8, 9, 10] [1, 8] 11 0 2047 Hz (m510.to ⟨il, il, il, il, il, il, il, il, il, il, trivial⟩) (.fieldAddr (off := 5) rfl Tryz.underlying55 rfl (s := 0) (by kernel_rfl) rfl <| .loadB1 hh (i := 50) rfl rfl rfl Tryz.underlying3 rfl <| .move rfl <| .move rfl <| .nilCheck rfl <| .fieldAddr (off := 5) rfl Tryz.underlying86 rfl (s := 14) (by kernel_rfl) rfl <| .fieldAddr (off := 13) rfl Tryz.underlying84 rfl (s := 6) (by kernel_rfl) rfl <| .p (fun _ _ h_ => y_idxA h_ rfl rfl Tryz.underlying82 sz3rao 5 rfl (by decide) (off := 18) rfl) <| .loadB1 hh (i := 1) rfl rfl rfl Tryz.underlying3 rfl <| .gtr rfl rfl <| .assign rfl <| .nil) ?_
  clear Hz Az; intro Az Hz
  refine wpAnyE_done (by kernel_rfl) ?_ _
  show K4 _ _
  exact hC4 _ _ ⟨_, Hz.only [0, 3, 4, 5], m510.ren [(50, 50), (1, 1), (2, 2), (3, 3), (4, 4), (5, 5), (6, 6), (7, 7), (8, 8)] (by decide)⟩
 ·
  have m522 : MemOk _ _ [(1, _), (2, _), (3, _), (4, _), (5, _), (6, _), (7, _), (8, _), (50, _), (51, _)] _ := m27.only [1, 2, 3, 4, 5, 6, 7, 8, 50, 51]; clear m27
  refine region_p 11 (B := [(1, _), (2, _), (3, _), (4, _), (5, _), (6, _), (7, _), (8, _), (50, _), (51, _)]) (m522.to ⟨il, il, il, il, il, il, il, il, il, il, trivial⟩) m522 (by kernel_rfl) (fun w523 hP523 m523 => ?_); clear m522
  refine goR hP523 [0, 1, 2, 3, 4, 5, 6, 7, 8, 9, 10] [1, 8] 11 0 2047 Hz (m523.to ⟨il, il, il, il, il, il, il, il, il, il, trivial⟩) (.fieldAddr (off := 5) rfl Tryz.underlying55 rfl (s := 0) (by kernel_rfl) rfl <| .loadB1 hh (i := 50) rfl rfl rfl Tryz.underlying3 rfl <| .move rfl <| .move rfl <| .nilCheck rfl <| .fieldAddr (off := 5) rfl Tryz.underlying86 rfl (s := 14) (by kernel_rfl) rfl <| .fieldAddr (off := 13) rfl Tryz.underlying84 rfl (s := 6) (by kernel_rfl) rfl <| .p (fun _ _ h_ => y_idxA h_ rfl rfl Tryz.underlying82 sz3rao 6 rfl (by decide) (off := 19) rfl) <| .loadB1 hh (i := 1) rfl rfl rfl Tryz.underlying3 rfl <| .gtr rfl rfl <| .assign rfl <| .nil) ?_
  clear Hz Az; intro Az Hz
  refine wpAnyE_done (by kernel_rfl) ?_ _
  show K4 _ _
  exact hC4 _ _ ⟨_, Hz.only [0, 3, 4, 5], m523.ren [(50, 50), (1, 1), (2, 2), (3, 3), (4, 4), (5, 5), (6, 6), (7, 7), (8, 8)] (by decide)⟩
theorem rofTerm_s (X : Cx) (R F : Nat) (no : Int) (w0 : World) (m0 : MemOk X w0 [] w0) :
   Calls Tryz.prog 98 #[.pointer (some ⟨R, 0, none⟩), .func (.func F) #[.pointer (some ⟨R, 0, none⟩)] #[], .int .i64 no] w0 fun e w' => ∃ B1 B2 B3, e = .returned (.func (.func 142) #[] #[.pointer (some ⟨B1, 0, none⟩), .pointer (some ⟨B2, 0, none⟩), .pointer (some ⟨B3, 0, none⟩)]) ∧ MemOk X w0 [(61, .box B1 33 [.pointer (some ⟨R, 0, none⟩)]), (62, .box B2 106 [(.func (.func F) #[.pointer (some ⟨R, 0, none⟩)] #[])]), (63, .box B3 3 [.int .i64 no])] w' := by
 refine enter (fn := Tryz.f98) Tryz.func98 rfl Tryz.ntmps98 rfl (fun Az Hz => ?_)
 simp only [List.zipIdx_cons, List.zipIdx_nil, List.map_cons, List.map_nil, Nat.reduceAdd, Nat.zero_add] at Hz
 refine wp_seq_k (fun K0 hK0 => ?_)
 refine wp_region_lit ?_
 refine wpList_plain rfl (fun K hK => ?_)
 refine e_box Hz m0 50 rfl rfl rfl ?_
 clear Hz Az m0; intro g1 Az w2 Hz m2 hB2 hg2
 clear hB2 hg2
 refine hK _ _ ?_; clear hK K
 refine wpList_plain rfl (fun K hK => ?_)
 refine e_box Hz m2 51 rfl rfl rfl ?_
 clear Hz Az m2; intro g3 Az w4 Hz m4 hB4 hg4
 clear hB4 hg4
 refine hK _ _ ?_; clear hK K
 refine wpList_plain rfl (fun K hK => ?_)
 refine e_box Hz m4 52 rfl rfl rfl ?_
 clear Hz Az m4; intro g5 Az w6 Hz m6 hB6 hg6
 clear hB6 hg6
 refine hK _ _ ?_; clear hK K
 refine goCh Hz (.assign rfl .nil) ?_
 clear Hz Az; intro Az Hz
 refine wpList_nil ?_
 refine hK0 _ _ ?_; clear hK0; try clear K0
 refine regS Hz (.makeFunc rfl <| .assign rfl <| .nil) ?_
 clear Hz Az; intro Az Hz
 refine wp_ret ?_
 try dsimp only [Exit.then, Exit.inBlock]
 refine (ret1 (fn := Tryz.f98) Hz rfl rfl ?_)
 exact ⟨_, _, _, rfl, m6.ren [(61, 50), (62, 51), (63, 52)] (by decide)⟩
theorem rhandler2_s (X : Cx) (R : Nat) (w0 : World) (m0 : MemOk X w0 [] w0) :
   Calls Tryz.prog 60 #[.pointer (some ⟨R, 0, none⟩), .int .i64 2] w0 fun e w' => e = .returned (.func (.func 97) #[.pointer (some ⟨R, 0, none⟩)] #[]) ∧ MemOk X w0 [] w' := by
 refine enter (fn := Tryz.f60) Tryz.func60 rfl Tryz.ntmps60 rfl (fun Az Hz => ?_)
 simp only [List.zipIdx_cons, List.zipIdx_nil, List.map_cons, List.map_nil, Nat.reduceAdd, Nat.zero_add] at Hz
 refine regS Hz (.assign rfl <| .nil) ?_
 clear Hz Az; intro Az Hz
 refine wp_seq_k (fun K0 hK0 => ?_)
 refine regS Hz (.move rfl <| .nil) ?_
 clear Hz Az; intro Az Hz
 refine wp_block ?_
 refine regS Hz (.eql rfl rfl <| .assign rfl <| .nil) ?_
 clear Hz Az; intro Az Hz
 refine bool_cases Hz (t := 6) rfl ?_ ?_
 · intro hb _; exact absurd hb (by decide)
 clear Hz; intro _ Hz
 refine wp_cond_false (Hz.ev (x := .tmp 6) rfl) ?_
 refine regS Hz (.eql rfl rfl <| .assign rfl <| .nil) ?_
 clear Hz Az; intro Az Hz
 refine bool_cases Hz (t := 10) rfl ?_ ?_
 rotate_left
 · intro hb _; exact absurd hb (by decide)
 clear Hz; intro _ Hz
 refine wp_cond_true (Hz.ev (x := .tmp 10) rfl) ?_
 refine regS Hz (.move rfl <| .c rfl (fun _ h_ => y_makeFuncB h_ rfl rfl) <| .assign rfl <| .nil) ?_
 clear Hz Az; intro Az Hz
 refine wp_ret ?_
 try dsimp only [Exit.then, Exit.inBlock]
 refine (ret1 (fn := Tryz.f60) Hz rfl rfl ?_)
 exact ⟨rfl, m0⟩
theorem rhandler4_s (X : Cx) (R : Nat) (w0 : World) (m0 : MemOk X w0 [] w0) :
   Calls Tryz.prog 60 #[.pointer (some ⟨R, 0, none⟩), .int .i64 4] w0 fun e w' => ∃ B1 B2 B3, e = .returned (.func (.func 142) #[] #[.pointer (some ⟨B1, 0, none⟩), .pointer (some ⟨B2, 0, none⟩), .pointer (some ⟨B3, 0, none⟩)]) ∧ MemOk X w0 [(61, .box B1 33 [.pointer (some ⟨R, 0, none⟩)]), (62, .box B2 106 [(.func (.func 100) #[.pointer (some ⟨R, 0, none⟩)] #[])]), (63, .box B3 3 [.int .i64 0])] w' := by
 refine enter (fn := Tryz.f60) Tryz.func60 rfl Tryz.ntmps60 rfl (fun Az Hz => ?_)
 simp only [List.zipIdx_cons, List.zipIdx_nil, List.map_cons, List.map_nil, Nat.reduceAdd, Nat.zero_add] at Hz
 refine regS Hz (.assign rfl <| .nil) ?_
 clear Hz Az; intro Az Hz
 refine wp_seq_k (fun K0 hK0 => ?_)
 refine regS Hz (.move rfl <| .nil) ?_
 clear Hz Az; intro Az Hz
 refine wp_block ?_
 refine regS Hz (.eql rfl rfl <| .assign rfl <| .nil) ?_
 clear Hz Az; intro Az Hz
 refine bool_cases Hz (t := 6) rfl ?_ ?_
 · intro hb _; exact absurd hb (by decide)
 clear Hz; intro _ Hz
 refine wp_cond_false (Hz.ev (x := .tmp 6) rfl) ?_
 refine regS Hz (.eql rfl rfl <| .assign rfl <| .nil) ?_
 clear Hz Az; intro Az Hz
 refine bool_cases Hz (t := 10) rfl ?_ ?_
 · intro hb _; exact absurd hb (by decide)
 clear Hz; intro _ Hz
 refine wp_cond_false (Hz.ev (x := .tmp 10) rfl) ?_
 refine regS Hz (.eql rfl rfl <| .assign rfl <| .nil) ?_
 clear Hz Az; intro Az Hz
 refine bool_cases Hz (t := 14) rfl ?_ ?_
 · intro hb _; exact absurd hb (by decide)
 clear Hz; intro _ Hz
 refine wp_cond_false (Hz.ev (x := .tmp 14) rfl) ?_
 replace Hz : Has 44 [(0, _), (4, _), (5, _)] Az := Hz.only [0, 4, 5]
 refine regS Hz (.eql rfl rfl <| .assign rfl <| .nil) ?_
 clear Hz Az; intro Az Hz
 refine bool_cases Hz (t := 20) rfl ?_ ?_
 rotate_left
 · intro hb _; exact absurd hb (by decide)
 clear Hz; intro _ Hz
 refine wp_cond_true (Hz.ev (x := .tmp 20) rfl) ?_
 refine wp_seq_k (fun K1 hK1 => ?_)
 refine wp_region_lit ?_
 refine goCh Hz (.move rfl <| .move rfl <| .c rfl (fun _ h_ => y_makeFuncB h_ rfl rfl) <| .nil) ?_
 clear Hz Az; intro Az Hz
 refine wpList_plain rfl (fun K hK => ?_)
 refine e_call Hz Tryz.func98 rfl rfl rfl rfl (rofTerm_s _ R 100 0 _ (m0.into [] (by decide) rfl)) ?_
 rintro e w22 ⟨B1, B2, B3, rfl, hm22⟩
 have mx22 := m0.back hm22 [(61, 61), (62, 62), (63, 63)] (by decide); clear hm22 m0
 have m22 : MemOk _ _ [(61, _), (62, _), (63, _)] _ := mx22.only [61, 62, 63]; clear mx22
 refine ⟨_, rfl, ?_⟩; clear Hz Az; intro Az Hz
 refine hK _ _ ?_; clear hK K
 refine goCh Hz (.assign rfl .nil) ?_
 clear Hz Az; intro Az Hz
 refine wpList_nil ?_
 refine hK1 _ _ ?_; clear hK1; try clear K1
 refine wp_ret ?_
 try dsimp only [Exit.then, Exit.inBlock]
 refine (ret1 (fn := Tryz.f60) Hz rfl rfl ?_)
 exact ⟨B1, B2, B3, rfl, m22.only [61, 62, 63]⟩
theorem rhandler6_s (X : Cx) (R : Nat) (w0 : World) (m0 : MemOk X w0 [] w0) :
   Calls Tryz.prog 60 #[.pointer (some ⟨R, 0, none⟩), .int .i64 6] w0 fun e w' => ∃ B1 B2 B3, e = .returned (.func (.func 142) #[] #[.pointer (some ⟨B1, 0, none⟩), .pointer (some ⟨B2, 0, none⟩), .pointer (some ⟨B3, 0, none⟩)]) ∧ MemOk X w0 [(61, .box B1 33 [.pointer (some ⟨R, 0, none⟩)]), (62, .box B2 106 [(.func (.func 102) #[.pointer (some ⟨R, 0, none⟩)] #[])]), (63, .box B3 3 [.int .i64 0])] w' := by
 refine enter (fn := Tryz.f60) Tryz.func60 rfl Tryz.ntmps60 rfl (fun Az Hz => ?_)
 simp only [List.zipIdx_cons, List.zipIdx_nil, List.map_cons, List.map_nil, Nat.reduceAdd, Nat.zero_add] at Hz
 refine regS Hz (.assign rfl <| .nil) ?_
 clear Hz Az; intro Az Hz
 refine wp_seq_k (fun K0 hK0 => ?_)
 refine regS Hz (.move rfl <| .nil) ?_
 clear Hz Az; intro Az Hz
 refine wp_block ?_
 refine regS Hz (.eql rfl rfl <| .assign rfl <| .nil) ?_
 clear Hz Az; intro Az Hz
 refine bool_cases Hz (t := 6) rfl ?_ ?_
 · intro hb _; exact absurd hb (by decide)
 clear Hz; intro _ Hz
 refine wp_cond_false (Hz.ev (x := .tmp 6) rfl) ?_
 refine regS Hz (.eql rfl rfl <| .assign rfl <| .nil) ?_
 clear Hz Az; intro Az Hz
 refine bool_cases Hz (t := 10) rfl ?_ ?_
 · intro hb _; exact absurd hb (by decide)
 clear Hz; intro _ Hz
 refine wp_cond_false (Hz.ev (x := .tmp 10) rfl) ?_
 refine regS Hz (.eql rfl rfl <| .assign rfl <| .nil) ?_
 clear Hz Az; intro Az Hz
 refine bool_cases Hz (t := 14) rfl ?_ ?_
 · intro hb _; exact absurd hb (by decide)
 clear Hz; intro _ Hz
 refine wp_cond_false (Hz.ev (x := .tmp 14) rfl) ?_
 replace Hz : Has 44 [(0, _), (4, _), (5, _)] Az := Hz.only [0, 4, 5]
 refine regS Hz (.eql rfl rfl <| .assign rfl <| .nil) ?_
 clear Hz Az; intro Az Hz
 refine bool_cases Hz (t := 20) rfl ?_ ?_
 · intro hb _; exact absurd hb (by decide)
 clear Hz; intro _ Hz
 refine wp_cond_false (Hz.ev (x := .tmp 20) rfl) ?_
 refine regS Hz (.eql rfl rfl <| .assign rfl <| .nil) ?_
 clear Hz Az; intro Az Hz
 refine bool_cases Hz (t := 26) rfl ?_ ?_
 · intro hb _; exact absurd hb (by decide)
 clear Hz; intro _ Hz
 refine wp_cond_false (Hz.ev (x := .tmp 26) rfl) ?_
 refine regS Hz (.eql rfl rfl <| .assign rfl <| .nil) ?_
 clear Hz Az; intro Az Hz
 refine bool_cases Hz (t := 32) rfl ?_ ?_
 rotate_left
 · intro hb _; exact absurd hb (by decide)
 clear Hz; intro _ Hz
 refine wp_cond_true (Hz.ev (x := .tmp 32) rfl) ?_
 replace Hz : Has 44 [(0, _), (4, _), (5, _)] Az := Hz.only [0, 4, 5]
 refine wp_seq_k (fun K1 hK1 => ?_)
 refine wp_region_lit ?_
 refine goCh Hz (.move rfl <| .move rfl <| .c rfl (fun _ h_ => y_makeFuncB h_ rfl rfl) <| .nil) ?_
 clear Hz Az; intro Az Hz
 refine wpList_plain rfl (fun K hK => ?_)
 refine e_call Hz Tryz.func98 rfl rfl rfl rfl (rofTerm_s _ R 102 0 _ (m0.into [] (by decide) rfl)) ?_
 rintro e w29 ⟨B1, B2, B3, rfl, hm29⟩
 have mx29 := m0.back hm29 [(61, 61), (62, 62), (63, 63)] (by decide); clear hm29 m0
 have m29 : MemOk _ _ [(61, _), (62, _), (63, _)] _ := mx29.only [61, 62, 63]; clear mx29
 refine ⟨_, rfl, ?_⟩; clear Hz Az; intro Az Hz
 refine hK _ _ ?_; clear hK K
 refine goCh Hz (.assign rfl .nil) ?_
 clear Hz Az; intro Az Hz
 refine wpList_nil ?_
 refine hK1 _ _ ?_; clear hK1; try clear K1
 refine wp_ret ?_
 try dsimp only [Exit.then, Exit.inBlock]
 refine (ret1 (fn := Tryz.f60) Hz rfl rfl ?_)
 exact ⟨B1, B2, B3, rfl, m29.only [61, 62, 63]⟩
end Go.Proofs.YtndnnlbdnjndiaaGreat.K
